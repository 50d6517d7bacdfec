/-
  The oracle, plainly: what it drew, in order, and for what; what was shown to it. Beside it: the same, told by tables.
-/
import Derived.WalkKit
namespace Go.Proofs.Ytbhdcocgghaifaa.Ideal

/-- What a value was drawn for (t: 0 fresh, 1 hash, 2 tag, 3 sealed), and the value. -/
structure Row where
  t : Nat
  key : Nat
  nonce : Nat
  a : ByteArray
  b : ByteArray
  h : Nat
def Row.same (x y : Row) : Bool := x.t == y.t && x.key == y.key && x.nonce == y.nonce && decide (x.a = y.a) && decide (x.b = y.b)

structure Or where
  draws : List Nat
  rows : List Row
  met : List Nat
  bads : Nat

def q0 : Row := ⟨0, 0, 0, .empty, .empty, 0⟩
def qh (s : ByteArray) : Row := ⟨1, 0, 0, s, .empty, 0⟩
def qm (k : Nat) (s : ByteArray) : Row := ⟨2, k, 0, s, .empty, 0⟩
def qs (k n : Nat) (a b : ByteArray) : Row := ⟨3, k, n, a, b, 0⟩

namespace Or
def new (draws : List Nat) : Or := ⟨draws, [], [], 0⟩
def next (O : Or) : Nat := (O.draws[O.rows.length]?).getD (9223372036854775808 + O.rows.length)
def issued (O : Or) (h : Nat) : Bool := O.rows.any fun r => r.h == h
def shown (O : Or) (h : Nat) : Bool := O.met.any fun x => x == h
def known (O : Or) (h : Nat) : Bool := O.issued h || O.shown h
def turn (O : Or) : Bool := O.next == 0 || O.known O.next
def draw (O : Or) (x : Row) : Or := { O with rows := O.rows ++ [{ x with h := O.next }], bads := O.bads + if O.turn then 1 else 0 }
def row (O : Or) (x : Row) : Option Row := O.rows.find? fun r => r.same x
def get (O : Or) (x : Row) : Option Nat := (O.row x).map (·.h)
def val (O : Or) (x : Row) : Nat := (O.get x).getD O.next
def ask (O : Or) (x : Row) : Or := match O.get x with | some _ => O | none => O.draw x
def meet (O : Or) (h : Nat) : Or := if O.issued h then O else { O with met := O.met ++ [h] }
def isTag (O : Or) (k : Nat) (s : ByteArray) (tag : Nat) : Bool := O.get (qm k s) == some tag
def verify (O : Or) (k : Nat) (s : ByteArray) (tag : Nat) : Or := if O.isTag k s tag then O else O.meet tag
def opens (k n : Nat) (a : ByteArray) (c : Nat) (r : Row) : Bool := r.t == 3 && r.key == k && r.nonce == n && decide (r.a = a) && r.h == c
def plain (O : Or) (k n : Nat) (a : ByteArray) (c : Nat) : Option ByteArray := (O.rows.find? (opens k n a c)).map (·.b)
def reopen (O : Or) (k n : Nat) (a : ByteArray) (c : Nat) : Or := match O.plain k n a c with | some _ => O | none => O.meet c
end Or

/-! ### Told by tables -/
structure St where
  draws : List Nat
  drawn : Nat
  known : Nat → Bool
  bad : Bool
  hashes : ByteArray → Option Nat
  macs : Nat × ByteArray → Option Nat
  seals : Nat × Nat × ByteArray × ByteArray → Option Nat
  plains : Nat × Nat × ByteArray × Nat → Option ByteArray

/-- One key's place in a table. -/
def upd {κ ε : Type} [DecidableEq κ] (f : κ → Option ε) (x : κ) (y : ε) : κ → Option ε := fun z => if z = x then some y else f z
theorem upd_at {κ ε : Type} [DecidableEq κ] (f : κ → Option ε) (x : κ) (y : ε) : upd f x y x = some y := by simp [upd]
theorem upd_off {κ ε : Type} [DecidableEq κ] (f : κ → Option ε) (x : κ) (y : ε) (z : κ) (h : z ≠ x) : upd f x y z = f z := by simp [upd, h]
theorem upd_self {κ ε : Type} [DecidableEq κ] {f : κ → Option ε} {x : κ} {y : ε} (h : f x = some y) : upd f x y = f := by
  funext z
  unfold upd
  split
  · rename_i e
    rw [e, h]
  · rfl

namespace St
def next (S : St) : Nat := (S.draws[S.drawn]?).getD (9223372036854775808 + S.drawn)
def turn (S : St) : Bool := S.next == 0 || S.known S.next
def fresh (S : St) : St := { S with drawn := S.drawn + 1, known := fun h => S.known h || h == S.next, bad := S.bad || S.turn }
def meet (S : St) (h : Nat) : St := { S with known := fun x => S.known x || x == h }
def new (draws : List Nat) : St := ⟨draws, 0, fun _ => false, false, fun _ => none, fun _ => none, fun _ => none, fun _ => none⟩
def hash (S : St) (s : ByteArray) : St := match S.hashes s with | some _ => S | none => { S.fresh with hashes := upd S.hashes s S.next }
def mac (S : St) (x : Nat × ByteArray) : St := match S.macs x with | some _ => S | none => { S.fresh with macs := upd S.macs x S.next }
def seal1 (S : St) (x : Nat × Nat × ByteArray × ByteArray) : St := match S.seals x with | some _ => S | none => { S.fresh with seals := upd S.seals x S.next }
def keep (S : St) (x : Nat × Nat × ByteArray × Nat) (b : ByteArray) : St := match S.plains x with | some _ => S | none => { S with plains := upd S.plains x b }
end St

/-- The tables of an oracle. -/
def Or.tabs (O : Or) : St := ⟨O.draws, O.rows.length, O.known, decide (0 < O.bads), fun s => O.get (qh s), fun x => O.get (qm x.1 x.2), fun x => O.get (qs x.1 x.2.1 x.2.2.1 x.2.2.2), fun x => O.plain x.1 x.2.1 x.2.2.1 x.2.2.2⟩

theorem same_eq {x y : Row} : x.same y = true ↔ x.t = y.t ∧ x.key = y.key ∧ x.nonce = y.nonce ∧ x.a = y.a ∧ x.b = y.b := by
  simp [Row.same, and_assoc]
theorem same_h (x y : Row) (h : Nat) : ({ x with h := h } : Row).same y = x.same y := rfl

theorem opens_eq {k n : Nat} {a : ByteArray} {c : Nat} {r : Row} : Or.opens k n a c r = true ↔ r.t = 3 ∧ r.key = k ∧ r.nonce = n ∧ r.a = a ∧ r.h = c := by
  simp [Or.opens, and_assoc]

namespace Or
variable {O : Or}
theorem row_draw (x y : Row) : (O.draw x).row y = (O.row y).or (if x.same y then some { x with h := O.next } else none) := by
  unfold row draw
  rw [List.find?_append]
  congr 1
  rw [List.find?_singleton, same_h]
theorem get_draw (x y : Row) : (O.draw x).get y = (O.get y).or (if x.same y then some O.next else none) := by
  unfold get
  rw [row_draw]
  cases O.row y <;> cases x.same y <;> rfl
theorem get_draw_same {x : Row} (h : O.get x = none) : (O.draw x).get x = some O.next := by
  rw [get_draw, h]
  simp [Row.same]
theorem get_draw_off {x y : Row} (h : x.same y = false) : (O.draw x).get y = O.get y := by
  rw [get_draw, h]
  simp
theorem get_draw_old {x y : Row} {v : Nat} (h : O.get y = some v) : (O.draw x).get y = some v := by
  rw [get_draw, h]
  rfl
theorem plain_draw (x : Row) (k n : Nat) (a : ByteArray) (c : Nat) : (O.draw x).plain k n a c = (O.plain k n a c).or (if opens k n a c { x with h := O.next } then some x.b else none) := by
  unfold plain draw
  rw [List.find?_append, List.find?_singleton]
  cases List.find? (opens k n a c) O.rows <;> cases opens k n a c { x with h := O.next } <;> rfl
theorem plain_draw_off {x : Row} (h : x.t ≠ 3) (k n : Nat) (a : ByteArray) (c : Nat) : (O.draw x).plain k n a c = O.plain k n a c := by
  rw [plain_draw]
  have : opens k n a c { x with h := O.next } = false := by simp [opens, h]
  rw [this]
  simp
theorem known_draw (x : Row) (h : Nat) : (O.draw x).known h = (O.known h || h == O.next) := by
  unfold known issued shown draw
  rw [List.any_append]
  simp only [List.any_cons, List.any_nil, Bool.or_false]
  rw [Bool.or_assoc, Bool.or_comm (O.next == h), ← Bool.or_assoc, Bool.beq_comm (a := O.next)]
theorem known_meet (v h : Nat) : (O.meet v).known h = (O.known h || h == v) := by
  unfold meet
  split
  · rename_i hi
    by_cases e : h = v
    · subst e
      simp [known, hi]
    · have : (h == v) = false := by simpa using e
      rw [this, Bool.or_false]
  · unfold known issued shown
    simp only [List.any_append, List.any_cons, List.any_nil, Bool.or_false]
    rw [Bool.or_assoc, Bool.beq_comm (a := v)]
theorem turn_tabs : O.tabs.turn = O.turn := rfl
theorem next_tabs : O.tabs.next = O.next := rfl
theorem bads_draw (x : Row) : decide (0 < (O.draw x).bads) = (decide (0 < O.bads) || O.turn) := by
  unfold draw
  simp only
  cases O.turn <;> simp
theorem tabs_new (draws : List Nat) : (new draws).tabs = St.new draws := by
  have : (new draws).known = fun _ => false := by funext h; rfl
  unfold tabs
  rw [this]
  rfl
theorem tabs_meet (h : Nat) : (O.meet h).tabs = O.tabs.meet h := by
  have e1 : (O.meet h).draws = O.draws := by unfold meet; split <;> rfl
  have e2 : (O.meet h).rows = O.rows := by unfold meet; split <;> rfl
  have e3 : (O.meet h).bads = O.bads := by unfold meet; split <;> rfl
  have e4 : (O.meet h).known = fun x => O.known x || x == h := by funext x; exact known_meet h x
  unfold tabs St.meet get row plain
  rw [e1, e2, e3, e4]
/-- The tables behind a draw, but for the one that it was for. -/
theorem tabs_draw (x : Row) : (O.draw x).tabs = ⟨O.draws, O.rows.length + 1, fun h => O.known h || h == O.next, decide (0 < O.bads) || O.turn, fun s => (O.draw x).get (qh s), fun y => (O.draw x).get (qm y.1 y.2), fun y => (O.draw x).get (qs y.1 y.2.1 y.2.2.1 y.2.2.2), fun y => (O.draw x).plain y.1 y.2.1 y.2.2.1 y.2.2.2⟩ := by
  unfold tabs
  rw [bads_draw]
  have e1 : (O.draw x).known = fun h => O.known h || h == O.next := by funext h; exact known_draw x h
  rw [e1]
  have e2 : (O.draw x).rows.length = O.rows.length + 1 := by simp [draw]
  rw [e2]
  rfl
theorem tabs_fresh : (O.draw q0).tabs = O.tabs.fresh := by
  rw [tabs_draw]
  have e1 : (fun s => (O.draw q0).get (qh s)) = fun s => O.get (qh s) := by funext s; exact get_draw_off rfl
  have e2 : (fun y : Nat × ByteArray => (O.draw q0).get (qm y.1 y.2)) = fun y => O.get (qm y.1 y.2) := by funext s; exact get_draw_off rfl
  have e3 : (fun y : Nat × Nat × ByteArray × ByteArray => (O.draw q0).get (qs y.1 y.2.1 y.2.2.1 y.2.2.2)) = fun y => O.get (qs y.1 y.2.1 y.2.2.1 y.2.2.2) := by funext s; exact get_draw_off rfl
  have e4 : (fun y : Nat × Nat × ByteArray × Nat => (O.draw q0).plain y.1 y.2.1 y.2.2.1 y.2.2.2) = fun y => O.plain y.1 y.2.1 y.2.2.1 y.2.2.2 := by funext s; exact plain_draw_off (by decide) _ _ _ _
  rw [e1, e2, e3, e4]
  rfl
theorem tabs_hash (s : ByteArray) : (O.ask (qh s)).tabs = O.tabs.hash s := by
  unfold ask St.hash
  have e0 : O.tabs.hashes s = O.get (qh s) := rfl
  rw [e0]
  cases hg : O.get (qh s) with
  | some v => rfl
  | none =>
    simp only
    rw [tabs_draw]
    have e1 : (fun z => (O.draw (qh s)).get (qh z)) = upd (fun s => O.get (qh s)) s O.next := by
      funext z
      rw [get_draw]
      unfold upd
      by_cases e : z = s
      · subst e
        rw [hg, if_pos rfl]
        simp [Row.same]
      · rw [if_neg e]
        have : (qh s).same (qh z) = false := by
          cases hs : (qh s).same (qh z) with
          | false => rfl
          | true => exact absurd (same_eq.1 hs).2.2.2.1.symm e
        rw [this]
        simp
    have e2 : (fun y : Nat × ByteArray => (O.draw (qh s)).get (qm y.1 y.2)) = fun y => O.get (qm y.1 y.2) := by funext s; exact get_draw_off rfl
    have e3 : (fun y : Nat × Nat × ByteArray × ByteArray => (O.draw (qh s)).get (qs y.1 y.2.1 y.2.2.1 y.2.2.2)) = fun y => O.get (qs y.1 y.2.1 y.2.2.1 y.2.2.2) := by funext s; exact get_draw_off rfl
    have e4 : (fun y : Nat × Nat × ByteArray × Nat => (O.draw (qh s)).plain y.1 y.2.1 y.2.2.1 y.2.2.2) = fun y => O.plain y.1 y.2.1 y.2.2.1 y.2.2.2 := by funext s; exact plain_draw_off (by simp [qh]) _ _ _ _
    rw [e1, e2, e3, e4]
    rfl
theorem tabs_mac (x : Nat × ByteArray) : (O.ask (qm x.1 x.2)).tabs = O.tabs.mac x := by
  obtain ⟨k, s⟩ := x
  unfold ask St.mac
  have e0 : O.tabs.macs (k, s) = O.get (qm k s) := rfl
  rw [e0]
  simp only
  cases hg : O.get (qm k s) with
  | some v => rfl
  | none =>
    simp only
    rw [tabs_draw]
    have e1 : (fun z : Nat × ByteArray => (O.draw (qm k s)).get (qm z.1 z.2)) = upd (fun y : Nat × ByteArray => O.get (qm y.1 y.2)) (k, s) O.next := by
      funext z
      obtain ⟨k', s'⟩ := z
      rw [get_draw]
      unfold upd
      by_cases e : (k', s') = (k, s)
      · cases e
        rw [hg, if_pos rfl]
        simp [Row.same]
      · rw [if_neg e]
        have : (qm k s).same (qm k' s') = false := by
          cases hs : (qm k s).same (qm k' s') with
          | false => rfl
          | true =>
            obtain ⟨_, h1, _, h3, _⟩ := same_eq.1 hs
            simp only [qm] at h1 h3
            exact absurd (by rw [h1, h3]) e
        rw [this]
        simp
    have e2 : (fun z => (O.draw (qm k s)).get (qh z)) = fun s => O.get (qh s) := by funext s; exact get_draw_off rfl
    have e3 : (fun y : Nat × Nat × ByteArray × ByteArray => (O.draw (qm k s)).get (qs y.1 y.2.1 y.2.2.1 y.2.2.2)) = fun y => O.get (qs y.1 y.2.1 y.2.2.1 y.2.2.2) := by funext s; exact get_draw_off rfl
    have e4 : (fun y : Nat × Nat × ByteArray × Nat => (O.draw (qm k s)).plain y.1 y.2.1 y.2.2.1 y.2.2.2) = fun y => O.plain y.1 y.2.1 y.2.2.1 y.2.2.2 := by funext s; exact plain_draw_off (by simp [qm]) _ _ _ _
    rw [e1, e2, e3, e4]
    rfl
/-- A row that is there opens: the first one that has its value, and its key, nonce and ad. -/
theorem plain_some {x : Row} (h3 : x.t = 3) {c : Nat} (h : O.get x = some c) : ∃ b, O.plain x.key x.nonce x.a c = some b := by
  unfold get row at h
  cases hf : O.rows.find? (fun r => r.same x) with
  | none => rw [hf] at h; cases h
  | some r =>
    rw [hf] at h
    simp only [Option.map_some, Option.some.injEq] at h
    have h1 := List.find?_some hf
    have h2 := List.mem_of_find?_eq_some hf
    obtain ⟨e1, e2, e3, e4, _⟩ := same_eq.1 h1
    unfold plain
    cases hp : O.rows.find? (opens x.key x.nonce x.a c) with
    | some r' => exact ⟨r'.b, rfl⟩
    | none =>
      have := List.find?_eq_none.1 hp r h2
      simp [opens, e1, e2, e3, e4, h3, h] at this
theorem tabs_seal (x : Nat × Nat × ByteArray × ByteArray) : (O.ask (qs x.1 x.2.1 x.2.2.1 x.2.2.2)).tabs = (O.tabs.seal1 x).keep (x.1, x.2.1, x.2.2.1, (O.tabs.seals x).getD O.next) x.2.2.2 := by
  obtain ⟨k, n, a, b⟩ := x
  have e0 : O.tabs.seals (k, n, a, b) = O.get (qs k n a b) := rfl
  unfold ask St.seal1
  simp only
  rw [e0]
  cases hg : O.get (qs k n a b) with
  | some v =>
    obtain ⟨b', hb'⟩ := plain_some (x := qs k n a b) rfl hg
    simp only [Option.getD_some]
    unfold St.keep
    have : O.tabs.plains (k, n, a, v) = some b' := hb'
    rw [this]
  | none =>
    simp only [Option.getD_none]
    rw [tabs_draw]
    have e1 : (fun z : Nat × Nat × ByteArray × ByteArray => (O.draw (qs k n a b)).get (qs z.1 z.2.1 z.2.2.1 z.2.2.2)) = upd (fun y : Nat × Nat × ByteArray × ByteArray => O.get (qs y.1 y.2.1 y.2.2.1 y.2.2.2)) (k, n, a, b) O.next := by
      funext z
      obtain ⟨k', n', a', b'⟩ := z
      rw [get_draw]
      unfold upd
      by_cases e : (k', n', a', b') = (k, n, a, b)
      · cases e
        rw [hg, if_pos rfl]
        simp [Row.same]
      · rw [if_neg e]
        have : (qs k n a b).same (qs k' n' a' b') = false := by
          cases hs : (qs k n a b).same (qs k' n' a' b') with
          | false => rfl
          | true =>
            obtain ⟨_, h1, h2, h3, h4⟩ := same_eq.1 hs
            simp only [qs] at h1 h2 h3 h4
            exact absurd (by rw [h1, h2, h3, h4]) e
        rw [this]
        simp
    have e2 : (fun z => (O.draw (qs k n a b)).get (qh z)) = fun s => O.get (qh s) := by funext s; exact get_draw_off rfl
    have e3 : (fun y : Nat × ByteArray => (O.draw (qs k n a b)).get (qm y.1 y.2)) = fun y => O.get (qm y.1 y.2) := by funext s; exact get_draw_off rfl
    have e5 : (fun y : Nat × Nat × ByteArray × Nat => (O.draw (qs k n a b)).plain y.1 y.2.1 y.2.2.1 y.2.2.2) = (match O.plain k n a O.next with | some _ => fun y : Nat × Nat × ByteArray × Nat => O.plain y.1 y.2.1 y.2.2.1 y.2.2.2 | none => upd (fun y : Nat × Nat × ByteArray × Nat => O.plain y.1 y.2.1 y.2.2.1 y.2.2.2) (k, n, a, O.next) b) := by
      cases hp : O.plain k n a O.next with
      | some u =>
        funext z
        obtain ⟨k', n', a', c'⟩ := z
        simp only
        rw [plain_draw]
        by_cases e : (k', n', a', c') = (k, n, a, O.next)
        · cases e
          rw [hp]
          rfl
        · have : opens k' n' a' c' { qs k n a b with h := O.next } = false := by
            cases hs : opens k' n' a' c' { qs k n a b with h := O.next } with
            | false => rfl
            | true =>
              obtain ⟨_, h1, h2, h3, h4⟩ := opens_eq.1 hs
              simp only [qs] at h1 h2 h3 h4
              exact absurd (by rw [h1, h2, h3, h4]) e
          rw [this]
          simp
      | none =>
        funext z
        obtain ⟨k', n', a', c'⟩ := z
        simp only
        rw [plain_draw]
        unfold upd
        by_cases e : (k', n', a', c') = (k, n, a, O.next)
        · cases e
          rw [hp, if_pos rfl]
          simp [opens, qs]
        · rw [if_neg e]
          have : opens k' n' a' c' { qs k n a b with h := O.next } = false := by
            cases hs : opens k' n' a' c' { qs k n a b with h := O.next } with
            | false => rfl
            | true =>
              obtain ⟨_, h1, h2, h3, h4⟩ := opens_eq.1 hs
              simp only [qs] at h1 h2 h3 h4
              exact absurd (by rw [h1, h2, h3, h4]) e
          rw [this]
          simp
    rw [e1, e2, e3, e5]
    unfold St.keep
    have e6 : ({ O.tabs.fresh with seals := upd O.tabs.seals (k, n, a, b) O.tabs.next } : St).plains (k, n, a, O.next) = O.plain k n a O.next := rfl
    rw [e6]
    cases O.plain k n a O.next <;> rfl
end Or

/-! ### Calls -/
/-- A call of the oracle. -/
structure Cl where
  d : Int
  key : Nat
  nonce : Nat
  h : Nat
  a : ByteArray
  b : ByteArray
/-- What it turns, and what it tells: a number, a text, a yes. -/
def Or.step (O : Or) (c : Cl) : Or :=
  if c.d = 0 then O.draw q0 else if c.d = 1 then O.ask (qh c.a) else if c.d = 2 then O.ask (qm c.key c.a) else if c.d = 3 then O.verify c.key c.a c.h
  else if c.d = 4 then O.ask (qs c.key c.nonce c.a c.b) else if c.d = 5 then O.reopen c.key c.nonce c.a c.h else if c.d = 6 then O.meet c.h else O
def Or.tell (O : Or) (c : Cl) : Nat × ByteArray × Bool :=
  if c.d = 0 then (O.next, .empty, true) else if c.d = 1 then (O.val (qh c.a), .empty, true) else if c.d = 2 then (O.val (qm c.key c.a), .empty, true) else if c.d = 3 then (0, .empty, O.isTag c.key c.a c.h)
  else if c.d = 4 then (O.val (qs c.key c.nonce c.a c.b), .empty, true) else if c.d = 5 then (0, (O.plain c.key c.nonce c.a c.h).getD .empty, (O.plain c.key c.nonce c.a c.h).isSome) else (0, .empty, false)
def Or.play (O : Or) : List Cl → Or
  | [] => O
  | c :: l => (O.step c).play l

namespace Or
variable {O : Or}
theorem tabs_verify (k : Nat) (s : ByteArray) (tag : Nat) : (O.verify k s tag).tabs = if O.tabs.macs (k, s) == some tag then O.tabs else O.tabs.meet tag := by
  unfold verify isTag
  show _ = if (O.get (qm k s) == some tag) = true then _ else _
  split
  · rfl
  · exact tabs_meet tag
theorem tabs_reopen (k n : Nat) (a : ByteArray) (c : Nat) : (O.reopen k n a c).tabs = if (O.tabs.plains (k, n, a, c)).isSome then O.tabs else O.tabs.meet c := by
  unfold reopen
  show _ = if (O.plain k n a c).isSome = true then _ else _
  cases O.plain k n a c with
  | none => exact tabs_meet c
  | some u => rfl

/-- Every value is a number of 64 bits. -/
def fine (O : Or) : Prop := (∀ x ∈ O.draws, x < 18446744073709551616) ∧ ∀ r ∈ O.rows, r.h < 18446744073709551616
theorem fine_new {l : List Nat} (h : ∀ x ∈ l, x < 18446744073709551616) : (new l).fine := ⟨h, by simp [new]⟩
theorem next_lt (h : O.fine) (hn : O.rows.length < 1152921504606846976) : O.next < 18446744073709551616 := by
  unfold next
  cases hd : O.draws[O.rows.length]? with
  | none => simp only [Option.getD_none]; omega
  | some d => exact h.1 d (List.mem_of_getElem? hd)
theorem get_lt (h : O.fine) {x : Row} {v : Nat} (hv : O.get x = some v) : v < 18446744073709551616 := by
  unfold get row at hv
  cases hf : O.rows.find? (fun r => r.same x) with
  | none => rw [hf] at hv; cases hv
  | some r =>
    rw [hf] at hv
    simp only [Option.map_some, Option.some.injEq] at hv
    have := h.2 r (List.mem_of_find?_eq_some hf)
    omega
theorem val_lt (h : O.fine) (hn : O.rows.length < 1152921504606846976) (x : Row) : O.val x < 18446744073709551616 := by
  unfold val
  cases hg : O.get x with
  | none => exact next_lt h hn
  | some v => exact get_lt h hg
theorem fine_draw (h : O.fine) (hn : O.rows.length < 1152921504606846976) (x : Row) : (O.draw x).fine := by
  refine ⟨h.1, fun r hr => ?_⟩
  simp only [draw, List.mem_append, List.mem_singleton] at hr
  rcases hr with hr | rfl
  · exact h.2 r hr
  · exact next_lt h hn
theorem fine_ask (h : O.fine) (hn : O.rows.length < 1152921504606846976) (x : Row) : (O.ask x).fine := by
  unfold ask
  split
  · exact h
  · exact fine_draw h hn x
theorem fine_meet (h : O.fine) (v : Nat) : (O.meet v).fine := by
  unfold meet
  split
  · exact h
  · exact h
theorem fine_verify (h : O.fine) (k : Nat) (s : ByteArray) (tag : Nat) : (O.verify k s tag).fine := by
  unfold verify
  split
  · exact h
  · exact fine_meet h _
theorem fine_reopen (h : O.fine) (k n : Nat) (a : ByteArray) (c : Nat) : (O.reopen k n a c).fine := by
  unfold reopen
  split
  · exact h
  · exact fine_meet h _
theorem fine_step (h : O.fine) (hn : O.rows.length < 1152921504606846976) (c : Cl) : (O.step c).fine := by
  unfold step
  iterate 7 (split; · first | exact fine_draw h hn _ | exact fine_ask h hn _ | exact fine_verify h _ _ _ | exact fine_reopen h _ _ _ _ | exact fine_meet h _)
  exact h
theorem rows_meet (v : Nat) : (O.meet v).rows = O.rows := by unfold meet; split <;> rfl
theorem len_draw (x : Row) : (O.draw x).rows.length = O.rows.length + 1 := by simp [draw]
theorem len_ask (x : Row) : (O.ask x).rows.length ≤ O.rows.length + 1 := by
  unfold ask
  split
  · omega
  · rw [len_draw]; omega
theorem len_verify (k : Nat) (s : ByteArray) (tag : Nat) : (O.verify k s tag).rows = O.rows := by
  unfold verify
  split
  · rfl
  · exact rows_meet _
theorem len_reopen (k n : Nat) (a : ByteArray) (c : Nat) : (O.reopen k n a c).rows = O.rows := by
  unfold reopen
  split
  · rfl
  · exact rows_meet _
theorem len_step (c : Cl) : (O.step c).rows.length ≤ O.rows.length + 1 := by
  unfold step
  iterate 7 (split; · first | (rw [len_draw]; omega) | exact len_ask _ | (rw [len_verify]; omega) | (rw [len_reopen]; omega) | (rw [rows_meet]; omega))
  omega
theorem play_snoc (l : List Cl) (c : Cl) : ∀ O : Or, O.play (l ++ [c]) = (O.play l).step c := by
  induction l with
  | nil => intro O; rfl
  | cons x l ih => intro O; exact ih (O.step x)
theorem fine_play (l : List Cl) : ∀ (O : Or), O.fine → O.rows.length + l.length < 1152921504606846976 → (O.play l).fine ∧ (O.play l).rows.length ≤ O.rows.length + l.length := by
  induction l with
  | nil => intro O h _; exact ⟨h, Nat.le_refl _⟩
  | cons x l ih =>
    intro O h hl
    simp only [List.length_cons] at hl ⊢
    have h1 := len_step (O := O) x
    obtain ⟨h2, h3⟩ := ih (O.step x) (fine_step h (by omega) x) (by omega)
    exact ⟨h2, by show ((O.step x).play l).rows.length ≤ _; omega⟩
end Or
end Go.Proofs.Ytbhdcocgghaifaa.Ideal
