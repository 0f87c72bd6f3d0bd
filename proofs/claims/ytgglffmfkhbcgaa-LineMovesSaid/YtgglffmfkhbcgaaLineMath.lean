/- The plain mathematics of lines: pieces, rows, and what a filler does. Conditions: none. -/
import Derived.Test.YtgglffmfkhbcgaaFixMath2
namespace Go.Proofs.Ytgglffmfkhbcgaa
structure Pc where
  b : Int
  w : Int
  h : Int
  g : Int
  t : ByteArray
  k : Bool
def Pc.cs (p : Pc) : List Value := [.int .i64 p.b, .int .i64 p.w, .int .i64 p.h, .int .i64 p.g, .string p.t, .bool p.k]
def flatP (l : List Pc) : List Value := l.flatMap Pc.cs
theorem flatP_cons (i : Pc) (l : List Pc) : flatP (i :: l) = .int .i64 i.b :: .int .i64 i.w :: .int .i64 i.h :: .int .i64 i.g :: .string i.t :: .bool i.k :: flatP l := rfl
theorem flatP_append (a b : List Pc) : flatP (a ++ b) = flatP a ++ flatP b := by unfold flatP; rw [List.flatMap_append]
theorem flatP_len (l : List Pc) : (flatP l).length = l.length * 6 := by
  induction l with
  | nil => rfl
  | cons i l ih => rw [flatP_cons]; simp only [List.length_cons, ih]; omega
theorem flatP_at : ∀ (l : List Pc) (k : Nat) (i : Pc), l[k]? = some i →
    (flatP l)[k * 6]? = some (.int .i64 i.b) ∧ (flatP l)[k * 6 + 1]? = some (.int .i64 i.w) ∧ (flatP l)[k * 6 + 2]? = some (.int .i64 i.h) ∧ (flatP l)[k * 6 + 3]? = some (.int .i64 i.g) ∧ (flatP l)[k * 6 + 4]? = some (.string i.t) ∧ (flatP l)[k * 6 + 5]? = some (.bool i.k)
  | [], k, i, h => by simp at h
  | j :: l, 0, i, h => by
    obtain rfl : j = i := by simpa using h
    rw [flatP_cons]; exact ⟨rfl, rfl, rfl, rfl, rfl, rfl⟩
  | j :: l, k + 1, i, h => by
    obtain ⟨a, b, c, d, e, f⟩ := flatP_at l k i (by simpa using h)
    rw [flatP_cons, show (k + 1) * 6 = k * 6 + 6 by omega]
    exact ⟨a, b, c, d, e, f⟩
theorem flatP_drop : ∀ (l : List Pc) (k : Nat), (flatP l).drop (k * 6) = flatP (l.drop k)
  | l, 0 => by simp
  | [], k + 1 => by simp [flatP]
  | j :: l, k + 1 => by rw [show (k + 1) * 6 = k * 6 + 6 by omega, flatP_cons]; exact flatP_drop l k
theorem flatP_take : ∀ (l : List Pc) (k : Nat), (flatP l).take (k * 6) = flatP (l.take k)
  | l, 0 => by simp [flatP]
  | [], k + 1 => by simp [flatP]
  | j :: l, k + 1 => by
    have e : (j :: l).take (k + 1) = j :: l.take k := rfl
    rw [show (k + 1) * 6 = k * 6 + 6 by omega, e, flatP_cons, flatP_cons, ← flatP_take l k]; rfl
theorem flatP_one (l : List Pc) : ∀ u ∈ flatP l, u.oneCell' = true := by
  intro u hu
  unfold flatP at hu
  obtain ⟨p, _, hp⟩ := List.mem_flatMap.1 hu
  simp only [Pc.cs, List.mem_cons, List.not_mem_nil, or_false] at hp
  rcases hp with rfl | rfl | rfl | rfl | rfl | rfl <;> rfl
/-- Where a piece is. -/
structure Pl where
  p : Int
  n : Int
  x : Int
  y : Int
  w : Int
  h : Int
def Pl.cs (p : Pl) : List Value := [.int .i64 p.p, .int .i64 p.n, .int .i64 p.x, .int .i64 p.y, .int .i64 p.w, .int .i64 p.h]
def flatL (l : List Pl) : List Value := l.flatMap Pl.cs
theorem flatL_cons (i : Pl) (l : List Pl) : flatL (i :: l) = .int .i64 i.p :: .int .i64 i.n :: .int .i64 i.x :: .int .i64 i.y :: .int .i64 i.w :: .int .i64 i.h :: flatL l := rfl
theorem flatL_append (a b : List Pl) : flatL (a ++ b) = flatL a ++ flatL b := by unfold flatL; rw [List.flatMap_append]
theorem flatL_len (l : List Pl) : (flatL l).length = l.length * 6 := by
  induction l with
  | nil => rfl
  | cons i l ih => rw [flatL_cons]; simp only [List.length_cons, ih]; omega
theorem flatL_at : ∀ (l : List Pl) (k : Nat) (i : Pl), l[k]? = some i →
    (flatL l)[k * 6]? = some (.int .i64 i.p) ∧ (flatL l)[k * 6 + 1]? = some (.int .i64 i.n) ∧ (flatL l)[k * 6 + 2]? = some (.int .i64 i.x) ∧ (flatL l)[k * 6 + 3]? = some (.int .i64 i.y) ∧ (flatL l)[k * 6 + 4]? = some (.int .i64 i.w) ∧ (flatL l)[k * 6 + 5]? = some (.int .i64 i.h)
  | [], k, i, h => by simp at h
  | j :: l, 0, i, h => by
    obtain rfl : j = i := by simpa using h
    rw [flatL_cons]; exact ⟨rfl, rfl, rfl, rfl, rfl, rfl⟩
  | j :: l, k + 1, i, h => by
    obtain ⟨a, b, c, d, e, f⟩ := flatL_at l k i (by simpa using h)
    rw [flatL_cons, show (k + 1) * 6 = k * 6 + 6 by omega]
    exact ⟨a, b, c, d, e, f⟩
/-! ### what a filler does -/
def isz (n : Int) : Bool := decide (0 ≤ n) && decide (n ≤ 1099511627776)
def Pc.may (p : Pc) : Bool := isz p.w && (isz p.h && isz p.g)
def mayP (l : List Pc) : Bool := l.all Pc.may
def gwP (l : List Pc) : List Int := l.flatMap fun p => [p.g, p.w]
theorem gwP_snoc (l : List Pc) (p : Pc) : gwP (l ++ [p]) = gwP l ++ [p.g, p.w] := by simp [gwP]
theorem gwP_len (l : List Pc) : (gwP l).length = l.length * 2 := by
  induction l with
  | nil => rfl
  | cons i l ih => show (i.g :: i.w :: gwP l).length = _; simp only [List.length_cons, ih]; omega
def hiP (l : List Pc) : Int := l.foldl (fun m p => max m p.h) 0
theorem hiP_snoc (l : List Pc) (p : Pc) : hiP (l ++ [p]) = max (hiP l) p.h := by simp [hiP, List.foldl_append]
def moveF (room wide align : Int) : Int := if align = 1 then max (room - wide) 0 / 2 else if align = 2 then max (room - wide) 0 else 0
structure Fs where
  op : List Pc
  wide : Int
  pls : List Pl
  lines : Int
  high : Int
  cut : Bool
/-- A line that is laid, so far. -/
structure Es where
  x : Int
  pls : List Pl
  cut : Bool
def endStep (lines high hi : Int) (first : Bool) (s : Es) (p : Pc) : Es :=
  let x1 := if first then s.x else add2 s.x p.g
  let c1 := if first then s.cut else (s.cut || !addOk s.x p.g)
  ⟨add2 x1 p.w, s.pls ++ [⟨s.pls.length, lines, x1, add2 high (hi - p.h), p.w, p.h⟩], (c1 || !addOk high (hi - p.h)) || !addOk x1 p.w⟩
def endAt (lines high hi : Int) (s : Es) (l : List Pc) : Nat → Es
  | 0 => s
  | k + 1 => match l[k]? with
    | some p => endStep lines high hi (k == 0) (endAt lines high hi s l k) p
    | none => endAt lines high hi s l k
theorem endAt_len (lines high hi : Int) (s : Es) (l : List Pc) : ∀ k, k ≤ l.length → (endAt lines high hi s l k).pls.length = s.pls.length + k
  | 0, _ => rfl
  | k + 1, h => by
    have ih := endAt_len lines high hi s l k (by omega)
    rw [endAt, List.getElem?_eq_getElem (by omega)]
    simp only [endStep, List.length_append, List.length_cons, List.length_nil, ih]
    omega
def endF (room align : Int) (s : Fs) : Fs :=
  if s.op = [] then s else
    let e := endAt s.lines s.high (hiP s.op) ⟨moveF room s.wide align, s.pls, s.cut⟩ s.op s.op.length
    { s with pls := e.pls, high := add2 s.high (hiP s.op), cut := e.cut || !addOk s.high (hiP s.op), lines := s.lines + 1 }
def beginF (s : Fs) (row : List Pc) : Fs := { s with op := row, wide := (sumL (0 :: (gwP row).drop 1)).1, cut := s.cut || !(sumL (0 :: (gwP row).drop 1)).2 }
def takeF (room align : Int) (s : Fs) (row : List Pc) : Fs :=
  if s.op = [] then beginF s row
  else if (sumL (s.wide :: gwP row)).1 ≤ room then { s with op := s.op ++ row, wide := (sumL (s.wide :: gwP row)).1, cut := s.cut || !(sumL (s.wide :: gwP row)).2 }
  else beginF (endF room align s) row
def rowEnd (l : List Pc) (at_ : Nat) : Bool := match l[at_]? with | some p => p.k | none => true
/-- Rows that end at one of so many places, and where the next one begins. -/
def rowsTo (l : List Pc) : Nat → List (Nat × Nat) × Nat
  | 0 => ([], 0)
  | k + 1 => if rowEnd l (k + 1) = true then ((rowsTo l k).1 ++ [((rowsTo l k).2, k + 1)], k + 1) else rowsTo l k
theorem rowsTo_le (l : List Pc) : ∀ k, (rowsTo l k).2 ≤ k
  | 0 => Nat.le_refl _
  | k + 1 => by
    have := rowsTo_le l k
    unfold rowsTo
    split
    · exact Nat.le_refl _
    · omega
def rowOf (l : List Pc) (r : Nat × Nat) : List Pc := (l.take r.2).drop r.1
def fillS (l : List Pc) (room align : Int) : Fs := endF room align ((rowsTo l l.length).1.foldl (fun s r => takeF room align s (rowOf l r)) ⟨[], 0, [], 0, 0, false⟩)
def fillOk (l : List Pc) (room : Int) : Bool := isz room && mayP l
def fillP (l : List Pc) (room align : Int) : List Pl := if fillOk l room = true then (fillS l room align).pls else []
def fillH (l : List Pc) (room align : Int) : Int := if fillOk l room = true then (fillS l room align).high else 0
def fillE (l : List Pc) (room align : Int) : Bool := if fillOk l room = true then !(fillS l room align).cut else false
/-! ### how wide -/
structure Ws where
  most : Int
  beg : Int
def wideStep (s : Ws) (first : Bool) (p : Pl) : Ws :=
  let b := if first then p.x else s.beg
  ⟨max s.most (sub2 (add2 p.x p.w) b), b⟩
def wideAt (l : List Pl) : Nat → Ws
  | 0 => ⟨0, 0⟩
  | k + 1 => match l[k]? with
    | some p => wideStep (wideAt l k) (match k with | 0 => true | j + 1 => (match l[j]? with | some q => p.n != q.n | none => true)) p
    | none => wideAt l k
def wideP (l : List Pl) : Int := (wideAt l l.length).most
end Go.Proofs.Ytgglffmfkhbcgaa
