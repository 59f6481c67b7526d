/-
  Plain facts on programs as texts. No program is named here. Conditions: none.
-/
import Derived.Lib.ItoaNum
import Derived.Test.YtmlopacekoghkaaIcP
namespace Go.Proofs.Ytmlopacekoghkaa.Il
open Go.Proofs.Ytmlopacekoghkaa.Ic

abbrev Bs := List UInt8
/-- An instruction. -/
structure In where
  op : Int
  kd : Int
  ar : Int
  pl : Int
  n : Int

def readsB (op : Int) : Bool := decide (op = 1 ∨ op = 2 ∨ (7 ≤ op ∧ op ≤ 12) ∨ (14 ≤ op ∧ op ≤ 24))
def writesB (op : Int) : Bool := decide (3 ≤ op ∧ op ≤ 6)
def jumpB (op : Int) : Bool := decide (25 ≤ op ∧ op ≤ 27)
def bareB (op : Int) : Bool := decide (op = 13 ∨ (28 ≤ op ∧ op ≤ 30))
/-- All bytes of a kind within an area? -/
def thereB (pl k : Int) : Bool := decide (szI k ≠ 0 ∧ 0 ≤ pl ∧ pl + szI k ≤ 64)

/-- The seven ways in which an instruction may be. -/
inductive Way (i : In) : Prop
  | lit (h : readsB i.op = true) (ha : i.ar = 0) (hp : i.pl = 0) (hn : isI i.kd i.n = true)
  | get (h : readsB i.op = true) (h1 : 1 ≤ i.ar) (h4 : i.ar ≤ 4) (ht : thereB i.pl i.kd = true) (hn : i.n = 0)
  | put (h : writesB i.op = true) (h1 : 2 ≤ i.ar) (h4 : i.ar ≤ 4) (ht : thereB i.pl i.kd = true) (hn : i.n = 0)
  | jump (h : jumpB i.op = true) (hk : i.kd = 0) (ha : i.ar = 0) (h0 : 0 ≤ i.pl) (h1 : i.pl ≤ 200) (hn : i.n = 0)
  | bare (h : bareB i.op = true) (hk : i.kd = 0) (ha : i.ar = 0) (hp : i.pl = 0) (hn : i.n = 0)
  | close (h : i.op = 33) (hk : i.kd = 0) (ha : i.ar = 0) (hp : i.pl = 0) (hn : i.n = 0)
  | conv (h : i.op = 31) (hk : szI i.kd ≠ 0) (ha : i.ar = 0) (hp : i.pl = 0) (hn : i.n = 0)
  | opens (h : i.op = 32) (hk : i.kd = 0) (ha : i.ar = 0) (hr : readsB i.pl = true) (hp : 2 < i.pl) (hn : i.n = 0)
  | timer (h : i.op = 34 ∨ i.op = 35) (hk : i.kd = 0) (h3 : 3 ≤ i.ar) (h4 : i.ar ≤ 4) (h0 : 0 ≤ i.pl) (h1 : i.pl ≤ 59) (hn : 1 ≤ i.n) (hm : i.n ≤ 9999)
  | trig (h : i.op = 36) (hk : i.kd = 0) (h3 : 3 ≤ i.ar) (h4 : i.ar ≤ 4) (h0 : 0 ≤ i.pl) (h1 : i.pl ≤ 63) (hn : i.n = 0)
/-- May an instruction be? -/
def rightI (i : In) : Bool :=
  if readsB i.op && decide (i.ar = 0) then decide (i.pl = 0) && isI i.kd i.n
  else if readsB i.op || writesB i.op then decide (1 ≤ i.ar ∧ i.ar ≤ 4) && !(writesB i.op && decide (i.ar = 1)) && thereB i.pl i.kd && decide (i.n = 0)
  else if jumpB i.op then decide (i.kd = 0 ∧ i.ar = 0 ∧ 0 ≤ i.pl ∧ i.pl ≤ 200 ∧ i.n = 0)
  else if bareB i.op || decide (i.op = 33) then decide (i.kd = 0 ∧ i.ar = 0 ∧ i.pl = 0 ∧ i.n = 0)
  else if i.op = 31 then decide (szI i.kd ≠ 0 ∧ i.ar = 0 ∧ i.pl = 0 ∧ i.n = 0)
  else if i.op = 32 then decide (i.kd = 0 ∧ i.ar = 0 ∧ i.n = 0) && readsB i.pl && decide (2 < i.pl)
  else if i.op = 34 ∨ i.op = 35 then decide (i.kd = 0 ∧ 3 ≤ i.ar ∧ i.ar ≤ 4 ∧ 0 ≤ i.pl ∧ i.pl ≤ 59 ∧ 1 ≤ i.n ∧ i.n ≤ 9999)
  else if i.op = 36 then decide (i.kd = 0 ∧ 3 ≤ i.ar ∧ i.ar ≤ 4 ∧ 0 ≤ i.pl ∧ i.pl ≤ 63 ∧ i.n = 0)
  else false

theorem right_way {i : In} (h : rightI i = true) : Way i := by
  unfold rightI at h
  split at h
  · next h1 =>
    simp at h1 h
    exact .lit h1.1 h1.2 h.1 h.2
  split at h
  · next h0 h1 =>
    simp at h0 h1 h
    obtain ⟨⟨⟨⟨ha, hb⟩, hc⟩, hd⟩, he⟩ := h
    rcases h1 with h1 | h1
    · exact .get h1 ha hb hd he
    · exact .put h1 (by rcases hc with hc | hc; (rw [h1] at hc; cases hc); omega) hb hd he
  split at h
  · next h1 =>
    simp at h
    exact .jump h1 h.1 h.2.1 h.2.2.1 h.2.2.2.1 h.2.2.2.2
  split at h
  · next h1 =>
    simp at h1 h
    rcases h1 with h1 | h1
    · exact .bare h1 h.1 h.2.1 h.2.2.1 h.2.2.2
    · exact .close h1 h.1 h.2.1 h.2.2.1 h.2.2.2
  split at h
  · next h1 =>
    simp at h
    exact .conv h1 h.1 h.2.1 h.2.2.1 h.2.2.2
  split at h
  · next h1 =>
    simp at h
    exact .opens h1 h.1.1.1 h.1.1.2.1 h.1.2 h.2 h.1.1.2.2
  split at h
  · next h1 =>
    simp at h
    exact .timer h1 h.1 h.2.1 h.2.2.1 h.2.2.2.1 h.2.2.2.2.1 h.2.2.2.2.2.1 h.2.2.2.2.2.2
  split at h
  · next h1 =>
    simp at h
    exact .trig h1 h.1 h.2.1 h.2.2.1 h.2.2.2.1 h.2.2.2.2.1 h.2.2.2.2.2
  · cases h

/-! ### Words -/
def namesL : List Bs := [[], [76, 68], [76, 68, 78], [83, 84], [83, 84, 78], [83], [82], [65, 78, 68], [79, 82], [88, 79, 82], [65, 78, 68, 78], [79, 82, 78], [88, 79, 82, 78], [78, 79, 84], [65, 68, 68], [83, 85, 66], [77, 85, 76], [68, 73, 86], [77, 79, 68],
  [71, 84], [71, 69], [69, 81], [78, 69], [76, 69], [76, 84], [74, 77, 80], [74, 77, 80, 67], [74, 77, 80, 67, 78], [82, 69, 84], [82, 69, 84, 67], [82, 69, 84, 67, 78], [67, 79, 78, 86], [], [], [84, 79, 78], [67, 84, 85], [84, 82, 73, 71]]
/-- An operation's name. -/
def opName (op : Int) : Bs := namesL.getD op.toNat []
/-- The operation of a name; 0: none. -/
def opOf (s : Bs) : Nat := if s = [] then 0 else ((List.range 37).find? fun k => decide (namesL.getD k [] = s)).getD 0
def nmI (k : Int) : Bs := (nameI k).data.toList
/-- The kind of a name; 0: none. -/
def kindOf (s : Bs) : Int := namedI ⟨s.toArray⟩
def letA (ar : Int) : UInt8 := if ar = 1 then 73 else if ar = 2 then 81 else if ar = 3 then 77 else if ar = 4 then 82 else 63
def areaL (ar pl : Int) : Bs := 37 :: letA ar :: Lib.decDigits pl.toNat
/-- What an operation asks for, as a word. -/
def argL (i : In) : Bs :=
  if jumpB i.op then 76 :: Lib.decDigits i.pl.toNat
  else if i.op = 31 then nmI i.kd
  else if i.op = 34 ∨ i.op = 35 then areaL i.ar i.pl ++ 44 :: Lib.itoa i.n
  else if i.op = 36 then areaL i.ar i.pl
  else if i.ar = 0 then nmI i.kd ++ 35 :: Lib.itoa i.n
  else areaL i.ar i.pl ++ 58 :: nmI i.kd
def spellW (i : In) : List Bs :=
  if i.op = 33 then [[41]] else if i.op = 32 then [opName i.pl ++ [40]] else if bareB i.op then [opName i.op] else [opName i.op, argL i]
def joinW : List Bs → Bs
  | [] => []
  | [a] => a
  | a :: l => a ++ 32 :: joinW l
/-- An instruction's words, with a blank between. -/
def spellL (i : In) : Bs := if rightI i then joinW (spellW i) else []

/-! ### Lines -/
def splitB (c : UInt8) : Bs → List Bs
  | [] => [[]]
  | x :: xs => if x = c then [] :: splitB c xs else match splitB c xs with
    | [] => [[x]]
    | h :: t => (x :: h) :: t
def cutB (c : UInt8) (s : Bs) : Bs := s.takeWhile (fun x => decide (x ≠ c))
/-- A line's words, without its remark. -/
def wordsB (s : Bs) : List Bs := (splitB 32 (cutB 59 s)).filter (fun x => decide (x ≠ []))
def letterB (c : UInt8) : Bool := decide ((97 ≤ c ∧ c ≤ 122) ∨ (65 ≤ c ∧ c ≤ 90))
def digitB (c : UInt8) : Bool := decide (48 ≤ c ∧ c ≤ 57)
/-- Is a text a name? -/
def nameB : Bs → Bool
  | [] => false
  | c :: s => letterB c && s.all (fun x => letterB x || digitB x || decide (x = 95)) && decide (s.length < 16)
def valB (s : Bs) : Nat := s.foldl (fun n c => 10 * n + (c.toNat - 48)) 0
/-- A number of up to so many digits. -/
def numB (most : Nat) (s : Bs) : Option Nat := if s ≠ [] ∧ s.length ≤ most ∧ s.all digitB = true then some (valB s) else none
/-- A number of a place. -/
def smallB (s : Bs) : Option Nat := if s.length = 2 ∧ s.head? = some 48 then none else numB 2 s
def areaOf (c : UInt8) : Option Int := if c = 73 then some 1 else if c = 81 then some 2 else if c = 77 then some 3 else if c = 82 then some 4 else none
/-- A place without its kind. -/
def spotB : Bs → Option (Int × Int)
  | c :: a :: s => if c = 37 then (areaOf a).bind fun ar => (smallB s).map fun p : Nat => (ar, (p : Int)) else none
  | _ => none
/-- A place. -/
def placeB (s : Bs) : Option In :=
  match splitB 58 s with
  | [p, k] => (spotB p).bind fun q => if kindOf k = 0 then none else some ⟨0, kindOf k, q.1, q.2, 0⟩
  | _ => none
def signB (s : Bs) : Option Int :=
  match s with
  | [] => none
  | c :: t => if c = 45 then (numB 10 t).map fun n : Nat => -(n : Int) else (numB 10 (c :: t)).map fun n : Nat => (n : Int)
def litB (s : Bs) : Option In :=
  match splitB 35 s with
  | [k, t] => (signB t).bind fun n => if kindOf k = 0 then none else some ⟨0, kindOf k, 0, 0, n⟩
  | _ => none

/-! ### What is assembled -/
/-- What was read so far: instructions, each with the label that it wants and its line; places; labels. -/
structure Asm where
  code : List (In × Bs × Nat)
  places : List (Bs × In)
  labels : List (Bs × Nat)
def look {β : Type} (l : List (Bs × β)) (s : Bs) : Option β := (l.find? fun p => decide (p.1 = s)).map (·.2)

def operandB (places : List (Bs × In)) (s : Bs) (also : Bool) : Except Nat In :=
  match placeB s with
  | some i => .ok i
  | none => match (if also then litB s else none) with
    | some i => .ok i
    | none => if nameB s then (match look places s with | some i => .ok i | none => .error 5) else .error 4
/-- The instruction of a word and what it asks for. -/
def askB (places : List (Bs × In)) (op : Int) (s : Bs) : Except Nat (In × Bs) :=
  if readsB op || writesB op then (match operandB places s (readsB op) with | .ok i => .ok (⟨op, i.kd, i.ar, i.pl, i.n⟩, []) | .error e => .error e)
  else if jumpB op then (if nameB s then .ok (⟨op, 0, 0, 0, 0⟩, s) else .error 4)
  else if op = 31 then .ok (⟨op, kindOf s, 0, 0, 0⟩, [])
  else if op = 36 then (match spotB s with | some q => .ok (⟨op, 0, q.1, q.2, 0⟩, []) | none => .error 4)
  else match splitB 44 s with
    | [p, t] => (match spotB p, numB 4 t with | some q, some n => .ok (⟨op, 0, q.1, q.2, (n : Int)⟩, []) | _, _ => .error 4)
    | _ => .error 4
def instrB (places : List (Bs × In)) (ws : List Bs) : Except Nat (In × Bs) :=
  match ws with
  | [] => .error 4
  | [a] =>
    if a = [41] then .ok (⟨33, 0, 0, 0, 0⟩, [])
    else if a.getLast? = some 40 ∧ 1 < a.length then .ok (⟨32, 0, 0, (opOf a.dropLast : Int), 0⟩, [])
    else if bareB (opOf a) then .ok (⟨(opOf a : Int), 0, 0, 0, 0⟩, []) else .error 4
  | [a, b] => if opOf a = 0 ∨ bareB (opOf a) = true then .error 4 else askB places (opOf a) b
  | _ => .error 4
/-- An instruction is put behind the others. -/
def addB (st : Asm) (ws : List Bs) (ln : Nat) : Except Nat Asm :=
  match instrB st.places ws with
  | .error e => .error e
  | .ok (i, lab) => if rightI i = false then .error 4 else if 200 ≤ st.code.length then .error 2 else .ok ⟨st.code ++ [(i, lab, ln)], st.places, st.labels⟩
/-- One line. -/
def lineB (st : Asm) (ws : List Bs) (ln : Nat) : Except Nat Asm :=
  match ws with
  | [] => .ok st
  | a :: rest =>
    if a = [86, 65, 82] then
      (match rest with
      | [nm, t, p] =>
        if nameB nm = true ∧ t = [65, 84] then
          (match placeB p with
          | some i => if thereB i.pl i.kd = true then (match look st.places nm with | some _ => .error 5 | none => .ok ⟨st.code, st.places ++ [(nm, i)], st.labels⟩) else .error 4
          | none => .error 4)
        else .error 4
      | _ => .error 4)
    else if a.getLast? = some 58 then
      (if nameB a.dropLast = true then
        (match look st.labels a.dropLast with
        | some _ => .error 5
        | none => if rest = [] then .ok ⟨st.code, st.places, st.labels ++ [(a.dropLast, st.code.length)]⟩ else addB ⟨st.code, st.places, st.labels ++ [(a.dropLast, st.code.length)]⟩ rest ln)
      else .error 4)
    else addB st ws ln
def linesB : Asm → List (Nat × List Bs) → Except (Nat × Nat) Asm
  | st, [] => .ok st
  | st, (ln, ws) :: r => match lineB st ws ln with
    | .error e => .error (e, ln)
    | .ok st' => linesB st' r
def jumpsB (labels : List (Bs × Nat)) : List (In × Bs × Nat) → Except (Nat × Nat) (List In)
  | [] => .ok []
  | (i, lab, ln) :: r =>
    if lab = [] then (match jumpsB labels r with | .ok l => .ok (i :: l) | .error e => .error e)
    else match look labels lab with
      | none => .error (5, ln)
      | some k => (match jumpsB labels r with | .ok l => .ok (⟨i.op, i.kd, i.ar, (k : Int), i.n⟩ :: l) | .error e => .error e)
def asmL (ls : List (Nat × List Bs)) : Except (Nat × Nat) (List In) :=
  match linesB ⟨[], [], []⟩ ls with
  | .error e => .error e
  | .ok st => jumpsB st.labels st.code
/-- Lines with their numbers. -/
def numbered : Nat → List Bs → List (Nat × List Bs)
  | _, [] => []
  | k, l :: r => (k, wordsB l) :: numbered (k + 1) r
/-- What a text is assembled to: instructions, or an error and its line. -/
def asmB (text : Bs) : Except (Nat × Nat) (List In) := if 4000 < text.length then .error (2, 0) else asmL (numbered 1 (splitB 10 text))

/-! ### What is printed -/
def ledB (code : List In) : List Nat := (code.filter fun i => jumpB i.op).map fun i => i.pl.toNat
def labelL (k : Nat) : Bs := 76 :: Lib.decDigits k
def printFrom (led : List Nat) : Nat → List In → Bs
  | k, [] => if k ∈ led then labelL k ++ [58, 10] else []
  | k, i :: r => (if k ∈ led then labelL k ++ [58, 10] else []) ++ spellL i ++ 10 :: printFrom led (k + 1) r
def printsB (code : List In) : Bool := code.all (fun i => rightI i && (!(jumpB i.op) || decide (i.pl ≤ code.length)))
def printL (code : List In) : Bs := printFrom (ledB code) 0 code

end Go.Proofs.Ytmlopacekoghkaa.Il

namespace Go.Proofs.Ytmlopacekoghkaa.Il
open Go.Proofs.Ytmlopacekoghkaa.Ic

theorem way_right {i : In} (h : Way i) : rightI i = true := by
  unfold rightI
  cases h with
  | lit h ha hp hn => rw [if_pos (by simp [h, ha])]; simp [hp, hn]
  | get h h1 h4 ht hn =>
    have hw : writesB i.op = false := by
      unfold readsB at h; unfold writesB; rw [decide_eq_true_iff] at h; rw [decide_eq_false_iff_not]; omega
    rw [if_neg (by simp [h]; omega), if_pos (by simp [h])]; simp [hw, h1, h4, ht, hn]
  | put h h1 h4 ht hn =>
    have hr : readsB i.op = false := by
      unfold writesB at h; unfold readsB; rw [decide_eq_true_iff] at h; rw [decide_eq_false_iff_not]; omega
    rw [if_neg (by simp [hr]), if_pos (by simp [h])]
    have : i.ar ≠ 1 := by omega
    simp [h4, ht, hn, this]; omega
  | jump h hk ha h0 h1 hn =>
    have hr : readsB i.op = false := by
      unfold jumpB at h; unfold readsB; rw [decide_eq_true_iff] at h; rw [decide_eq_false_iff_not]; omega
    have hw : writesB i.op = false := by
      unfold jumpB at h; unfold writesB; rw [decide_eq_true_iff] at h; rw [decide_eq_false_iff_not]; omega
    rw [if_neg (by simp [hr]), if_neg (by simp [hr, hw]), if_pos h]
    simp [hk, ha, hn, h0, h1]
  | bare h hk ha hp hn =>
    have hr : readsB i.op = false ∧ writesB i.op = false ∧ jumpB i.op = false := by
      unfold bareB at h; unfold readsB writesB jumpB; rw [decide_eq_true_iff] at h
      refine ⟨?_, ?_, ?_⟩ <;> rw [decide_eq_false_iff_not] <;> omega
    rw [if_neg (by simp [hr.1]), if_neg (by simp [hr.1, hr.2.1]), if_neg (by simp [hr.2.2]), if_pos (by simp [h])]
    simp [hk, ha, hp, hn]
  | close h hk ha hp hn =>
    have hr : readsB i.op = false ∧ writesB i.op = false ∧ jumpB i.op = false := by
      rw [h]; decide
    rw [if_neg (by simp [hr.1]), if_neg (by simp [hr.1, hr.2.1]), if_neg (by simp [hr.2.2]), if_pos (by simp [h])]
    simp [hk, ha, hp, hn]
  | conv h hk ha hp hn =>
    have hr : readsB i.op = false ∧ writesB i.op = false ∧ jumpB i.op = false ∧ bareB i.op = false := by
      rw [h]; decide
    rw [if_neg (by simp [hr.1]), if_neg (by simp [hr.1, hr.2.1]), if_neg (by simp [hr.2.2]), if_neg (by rw [h]; decide), if_pos h]
    simp [hk, ha, hp, hn]
  | opens h hk ha hr2 hp hn =>
    have hr : readsB i.op = false ∧ writesB i.op = false ∧ jumpB i.op = false ∧ bareB i.op = false := by
      rw [h]; decide
    rw [if_neg (by simp [hr.1]), if_neg (by simp [hr.1, hr.2.1]), if_neg (by simp [hr.2.2]), if_neg (by rw [h]; decide), if_neg (by rw [h]; decide), if_pos h]
    simp [hk, ha, hp, hn, hr2]
  | timer h hk h3 h4 h0 h1 hn hm =>
    have hr : readsB i.op = false ∧ writesB i.op = false ∧ jumpB i.op = false ∧ bareB i.op = false ∧ i.op ≠ 33 ∧ i.op ≠ 31 ∧ i.op ≠ 32 := by
      rcases h with h | h <;> rw [h] <;> decide
    rw [if_neg (by simp [hr.1]), if_neg (by simp [hr.1, hr.2.1]), if_neg (by simp [hr.2.2]), if_neg (by simp [hr.2.2.2.1, hr.2.2.2.2.1]), if_neg hr.2.2.2.2.2.1, if_neg hr.2.2.2.2.2.2, if_pos h]
    simp [hk, h3, h4, h0, h1, hn, hm]
  | trig h hk h3 h4 h0 h1 hn =>
    have hr : readsB i.op = false ∧ writesB i.op = false ∧ jumpB i.op = false ∧ bareB i.op = false ∧ i.op ≠ 33 ∧ i.op ≠ 31 ∧ i.op ≠ 32 ∧ ¬ (i.op = 34 ∨ i.op = 35) := by
      rw [h]; decide
    rw [if_neg (by simp [hr.1]), if_neg (by simp [hr.1, hr.2.1]), if_neg (by simp [hr.2.2]), if_neg (by simp [hr.2.2.2.1, hr.2.2.2.2.1]), if_neg hr.2.2.2.2.2.1, if_neg hr.2.2.2.2.2.2.1, if_neg hr.2.2.2.2.2.2.2, if_pos h]
    simp [hk, h3, h4, h0, h1, hn]

/-! ### Split -/
theorem split_ne (c : UInt8) (s : Bs) : splitB c s ≠ [] := by
  induction s with
  | nil => simp [splitB]
  | cons x s ih =>
    unfold splitB
    split
    · simp
    · split <;> simp
theorem split_free {c : UInt8} {s : Bs} (h : c ∉ s) : splitB c s = [s] := by
  induction s with
  | nil => rfl
  | cons x s ih =>
    simp at h
    unfold splitB
    rw [if_neg (fun e => h.1 e.symm), ih h.2]
theorem split_app {c : UInt8} {a b : Bs} (h : c ∉ a) : splitB c (a ++ c :: b) = a :: splitB c b := by
  induction a with
  | nil => simp [splitB]
  | cons x a ih =>
    simp at h
    rw [List.cons_append, splitB, if_neg (fun e => h.1 e.symm), ih h.2]
theorem split_two {c : UInt8} {a b : Bs} (h : c ∉ a) (h2 : c ∉ b) : splitB c (a ++ c :: b) = [a, b] := by
  rw [split_app h, split_free h2]
theorem cut_free {c : UInt8} {s : Bs} (h : c ∉ s) : cutB c s = s := by
  unfold cutB
  induction s with
  | nil => rfl
  | cons x s ih =>
    simp at h
    rw [List.takeWhile_cons, if_pos (by simp; exact fun e => h.1 e.symm), ih h.2]
theorem words_one {a : Bs} (h : a ≠ []) (h1 : 32 ∉ a) (h2 : 59 ∉ a) : wordsB a = [a] := by
  unfold wordsB
  rw [cut_free h2, split_free h1]
  simp [h]
theorem words_two {a b : Bs} (h : a ≠ []) (hb : b ≠ []) (h1 : 32 ∉ a) (h2 : 59 ∉ a) (h3 : 32 ∉ b) (h4 : 59 ∉ b) : wordsB (a ++ 32 :: b) = [a, b] := by
  unfold wordsB
  rw [cut_free (by simp; exact ⟨h2, h4⟩), split_two h1 h3]
  simp [h, hb]
theorem words_nil : wordsB [] = [] := by decide

/-! ### Digits -/
theorem dec_lt (u : Nat) (h : u < 10) : Lib.decDigits u = [UInt8.ofNat (48 + u)] := by rw [Lib.decDigits, dif_pos h]
theorem dec_ge (u : Nat) (h : ¬ u < 10) : Lib.decDigits u = Lib.decDigits (u / 10) ++ [UInt8.ofNat (48 + u % 10)] := by rw [Lib.decDigits, dif_neg h]
theorem dig_fin : ∀ k : Fin 10, digitB (UInt8.ofNat (48 + k.val)) = true ∧ (UInt8.ofNat (48 + k.val)).toNat = 48 + k.val := by decide
theorem dec_all (u : Nat) : (Lib.decDigits u).all digitB = true := by
  induction u using Nat.strongRecOn with
  | _ u ih =>
    by_cases h : u < 10
    · rw [dec_lt u h, List.all_cons, List.all_nil, (dig_fin ⟨u, h⟩).1]; rfl
    · rw [dec_ge u h, List.all_append, ih (u / 10) (by omega), List.all_cons, List.all_nil, (dig_fin ⟨u % 10, by omega⟩).1]; rfl
theorem dec_mem {u : Nat} {c : UInt8} (h : c ∈ Lib.decDigits u) : digitB c = true := by
  have := dec_all u
  rw [List.all_eq_true] at this
  exact this c h
theorem dec_nonempty (u : Nat) : Lib.decDigits u ≠ [] := by
  by_cases h : u < 10
  · rw [dec_lt u h]; simp
  · rw [dec_ge u h]; simp
theorem val_snoc (s : Bs) (c : UInt8) : valB (s ++ [c]) = 10 * valB s + (c.toNat - 48) := by unfold valB; rw [List.foldl_append]; rfl
theorem val_dec (u : Nat) : valB (Lib.decDigits u) = u := by
  induction u using Nat.strongRecOn with
  | _ u ih =>
    by_cases h : u < 10
    · rw [dec_lt u h]
      show 10 * 0 + ((UInt8.ofNat (48 + u)).toNat - 48) = u
      rw [(dig_fin ⟨u, h⟩).2]; simp
    · rw [dec_ge u h, val_snoc, ih (u / 10) (by omega), (dig_fin ⟨u % 10, by omega⟩).2]
      show 10 * (u / 10) + (48 + u % 10 - 48) = u
      omega
theorem dec_length_le (k u : Nat) (hk : 1 ≤ k) (h : u < 10 ^ k) : (Lib.decDigits u).length ≤ k := by
  induction k generalizing u with
  | zero => omega
  | succ k ih =>
    by_cases h1 : u < 10
    · rw [dec_lt u h1]; simp
    · rw [dec_ge u h1, List.length_append]
      rcases Nat.eq_zero_or_pos k with rfl | h2
      · simp at h; omega
      · have := ih (u / 10) h2 (by rw [Nat.pow_succ] at h; omega)
        simp; omega
theorem dec_head (u : Nat) (h : 1 ≤ u) : (Lib.decDigits u).head? ≠ some 48 := by
  induction u using Nat.strongRecOn with
  | _ u ih =>
    by_cases h1 : u < 10
    · rw [dec_lt u h1, List.head?_cons]
      intro e
      have := congrArg UInt8.toNat (Option.some.inj e)
      rw [(dig_fin ⟨u, h1⟩).2] at this
      have h48 : (48 : UInt8).toNat = 48 := rfl
      rw [h48] at this
      show False
      have : 48 + u = 48 := this
      omega
    · rw [dec_ge u h1, List.head?_append]
      have := ih (u / 10) (by omega) (by omega)
      cases hd : (Lib.decDigits (u / 10)).head? with
      | none => rw [List.head?_eq_none_iff] at hd; exact absurd hd (dec_nonempty _)
      | some c => rw [hd] at this; simpa using this
theorem num_dec (most u : Nat) (hm : 1 ≤ most) (h : u < 10 ^ most) : numB most (Lib.decDigits u) = some u := by
  unfold numB
  rw [if_pos ⟨dec_nonempty u, dec_length_le most u hm h, dec_all u⟩, val_dec]
theorem small_dec (u : Nat) (h : u < 100) : smallB (Lib.decDigits u) = some u := by
  unfold smallB
  rw [if_neg, num_dec 2 u (by omega) (by omega)]
  rintro ⟨h1, h2⟩
  rcases Nat.eq_zero_or_pos u with rfl | h3
  · rw [dec_lt 0 (by omega)] at h1; simp at h1
  · exact dec_head u h3 h2
theorem dec_inj {a b : Nat} (h : Lib.decDigits a = Lib.decDigits b) : a = b := by rw [← val_dec a, ← val_dec b, h]
theorem itoa_pos (n : Int) (h : 0 ≤ n) : Lib.itoa n = Lib.decDigits n.toNat := by unfold Lib.itoa; rw [if_neg (by omega)]
theorem itoa_mem {n : Int} {c : UInt8} (h : c ∈ Lib.itoa n) : c = 45 ∨ digitB c = true := by
  unfold Lib.itoa at h
  split at h
  · rcases List.mem_cons.1 h with h | h
    · exact .inl h
    · exact .inr (dec_mem h)
  · exact .inr (dec_mem h)
theorem digit_ne {c d : UInt8} (h : digitB c = true) (hd : digitB d = false) : c ≠ d := fun e => by rw [e, hd] at h; cases h
theorem sign_itoa (n : Int) (h1 : -9999999999 ≤ n) (h2 : n ≤ 9999999999) : signB (Lib.itoa n) = some n := by
  unfold Lib.itoa
  by_cases h : n < 0
  · rw [if_pos h]
    unfold signB
    dsimp only
    rw [if_pos rfl, num_dec 10 _ (by omega) (by omega)]
    simp; omega
  · rw [if_neg h]
    have hd := num_dec 10 n.toNat (by omega) (by omega)
    have hm := @dec_mem n.toNat
    cases e : Lib.decDigits n.toNat with
    | nil => exact absurd e (dec_nonempty _)
    | cons c t =>
      rw [e] at hd
      unfold signB
      dsimp only
      rw [if_neg (digit_ne (hm (by rw [e]; simp)) (by decide)), hd]
      simp; omega

end Go.Proofs.Ytmlopacekoghkaa.Il

namespace Go.Proofs.Ytmlopacekoghkaa.Il
open Go.Proofs.Ytmlopacekoghkaa.Ic

theorem kind_name (k : Int) (h : szI k ≠ 0) : kindOf (nmI k) = k := by
  rcases kinds k with h' | rfl | rfl | rfl | rfl | rfl | rfl | rfl
  · exact absurd (sz_none k h') h
  all_goals decide
def capB (c : UInt8) : Bool := decide (65 ≤ c ∧ c ≤ 90)
theorem name_caps (k : Int) (h : szI k ≠ 0) : nmI k ≠ [] ∧ (nmI k).all capB = true := by
  rcases kinds k with h' | rfl | rfl | rfl | rfl | rfl | rfl | rfl
  · exact absurd (sz_none k h') h
  all_goals decide
theorem op_fin : ∀ k : Fin 37, namesL.getD k.val [] = [] ∨ (opOf (namesL.getD k.val []) = k.val ∧ (namesL.getD k.val []).all capB = true) := by decide
theorem op_some : ∀ k : Fin 37, k.val ≠ 0 → k.val ≠ 32 → k.val ≠ 33 → namesL.getD k.val [] ≠ [] := by decide
theorem op_name (op : Int) (h : 1 ≤ op) (h2 : op ≤ 36) (h3 : op ≠ 32) (h4 : op ≠ 33) : opName op ≠ [] ∧ (opOf (opName op) : Int) = op ∧ (opName op).all capB = true := by
  have hk := op_fin ⟨op.toNat, by omega⟩
  have hs := op_some ⟨op.toNat, by omega⟩ (by simp; omega) (by simp; omega) (by simp; omega)
  rcases hk with hk | hk
  · exact absurd hk hs
  · refine ⟨hs, ?_, hk.2⟩
    unfold opName
    rw [hk.1]
    simp; omega
theorem caps_free {s : Bs} (h : s.all capB = true) {c : UInt8} (hc : capB c = false) : c ∉ s := by
  intro hm
  rw [List.all_eq_true] at h
  rw [h c hm] at hc; cases hc
theorem dec_free (u : Nat) {c : UInt8} (hc : digitB c = false) : c ∉ Lib.decDigits u := fun hm => by rw [dec_mem hm] at hc; cases hc
theorem itoa_free (n : Int) {c : UInt8} (hc : digitB c = false) (h45 : c ≠ 45) : c ∉ Lib.itoa n := fun hm => by
  rcases itoa_mem hm with h | h
  · exact h45 h
  · rw [h] at hc; cases hc
theorem let_free (ar : Int) {c : UInt8} (hc : capB c = false) (h63 : c ≠ 63) : c ≠ letA ar := by
  unfold letA
  split
  · intro e; rw [e] at hc; cases hc
  split
  · intro e; rw [e] at hc; cases hc
  split
  · intro e; rw [e] at hc; cases hc
  split
  · intro e; rw [e] at hc; cases hc
  · exact h63
theorem area_free (ar pl : Int) {c : UInt8} (h37 : c ≠ 37) (hc : capB c = false) (h63 : c ≠ 63) (hd : digitB c = false) : c ∉ areaL ar pl := by
  unfold areaL
  simp only [List.mem_cons, not_or]
  exact ⟨h37, let_free ar hc h63, dec_free _ hd⟩
theorem area_ne (ar pl : Int) : areaL ar pl ≠ [] := by unfold areaL; simp
theorem area_of (ar : Int) (h1 : 1 ≤ ar) (h4 : ar ≤ 4) : areaOf (letA ar) = some ar := by
  rcases (show ar = 1 ∨ ar = 2 ∨ ar = 3 ∨ ar = 4 by omega) with rfl | rfl | rfl | rfl <;> rfl
theorem spot_area (ar pl : Int) (h1 : 1 ≤ ar) (h4 : ar ≤ 4) (h0 : 0 ≤ pl) (h : pl < 100) : spotB (areaL ar pl) = some (ar, pl) := by
  unfold areaL spotB
  dsimp only
  rw [if_pos rfl, area_of ar h1 h4, small_dec pl.toNat (by omega)]
  simp; omega
theorem there_bd {pl k : Int} (h : thereB pl k = true) : szI k ≠ 0 ∧ 0 ≤ pl ∧ pl < 64 := by
  unfold thereB at h
  rw [decide_eq_true_iff] at h
  refine ⟨h.1, h.2.1, ?_⟩
  have := h.1
  omega
theorem place_text (ar pl k : Int) (h1 : 1 ≤ ar) (h4 : ar ≤ 4) (ht : thereB pl k = true) : placeB (areaL ar pl ++ 58 :: nmI k) = some ⟨0, k, ar, pl, 0⟩ := by
  obtain ⟨hk, h0, h64⟩ := there_bd ht
  unfold placeB
  rw [split_two (area_free ar pl (by decide) (by decide) (by decide) (by decide)) (caps_free (name_caps k hk).2 (by decide))]
  dsimp only
  have hk2 : ¬ k = 0 := by have := (sz_iff k).1 hk; omega
  rw [spot_area ar pl h1 h4 h0 (by omega), kind_name k hk]
  simp [hk2]
theorem place_lit (k n : Int) (hk : szI k ≠ 0) : placeB (nmI k ++ 35 :: Lib.itoa n) = none := by
  unfold placeB
  rw [split_free]
  simp only [List.mem_append, List.mem_cons, not_or]
  exact ⟨caps_free (name_caps k hk).2 (by decide), by decide, itoa_free n (by decide) (by decide)⟩
theorem lit_text (k n : Int) (h : isI k n = true) : litB (nmI k ++ 35 :: Lib.itoa n) = some ⟨0, k, 0, 0, n⟩ := by
  have hk := is_sz h
  have hb := is_bd h
  unfold litB
  rw [split_two (caps_free (name_caps k hk).2 (by decide)) (itoa_free n (by decide) (by decide))]
  dsimp only
  have hk2 : ¬ k = 0 := by have := (sz_iff k).1 hk; omega
  rw [sign_itoa n (by omega) (by omega), kind_name k hk]
  simp [hk2]
theorem label_name (u : Nat) (h : u < 1000000) : nameB (76 :: Lib.decDigits u) = true := by
  unfold nameB
  have h1 := dec_length_le 6 u (by omega) (by omega)
  have h2 : (Lib.decDigits u).all (fun x => letterB x || digitB x || decide (x = 95)) = true := by
    rw [List.all_eq_true]
    intro x hx
    simp [dec_mem hx]
  dsimp only
  rw [h2]
  have h3 : decide ((Lib.decDigits u).length < 16) = true := by rw [decide_eq_true_iff]; omega
  rw [h3]
  decide

/-- An instruction as it is read: a jump not led yet. -/
def bareIn (i : In) : In := if jumpB i.op then ⟨i.op, 0, 0, 0, 0⟩ else i
/-- The label that it wants. -/
def wantB (i : In) : Bs := if jumpB i.op then labelL i.pl.toNat else []

theorem last_cap {s : Bs} {c : UInt8} (hs : s.all capB = true) (hc : capB c = false) : s.getLast? ≠ some c := by
  intro h
  have := List.mem_of_getLast? h
  exact caps_free hs hc this

theorem arg_instr (places : List (Bs × In)) (a b : Bs) (op : Int) (h1 : 1 ≤ op) (ho : (opOf a : Int) = op) (hb : bareB op = false) : instrB places [a, b] = askB places op b := by
  unfold instrB
  dsimp only
  rw [if_neg, ho]
  rw [ho, hb]
  intro h
  rcases h with h | h
  · omega
  · cases h

theorem op_facts (op : Int) : (readsB op = true → writesB op = false ∧ jumpB op = false ∧ bareB op = false ∧ op ≠ 31 ∧ op ≠ 32 ∧ op ≠ 33 ∧ op ≠ 34 ∧ op ≠ 35 ∧ op ≠ 36 ∧ 1 ≤ op ∧ op ≤ 36) ∧
    (writesB op = true → readsB op = false ∧ jumpB op = false ∧ bareB op = false ∧ op ≠ 31 ∧ op ≠ 32 ∧ op ≠ 33 ∧ op ≠ 34 ∧ op ≠ 35 ∧ op ≠ 36 ∧ 1 ≤ op ∧ op ≤ 36) ∧
    (jumpB op = true → readsB op = false ∧ writesB op = false ∧ bareB op = false ∧ op ≠ 31 ∧ op ≠ 32 ∧ op ≠ 33 ∧ op ≠ 34 ∧ op ≠ 35 ∧ op ≠ 36 ∧ 1 ≤ op ∧ op ≤ 36) ∧
    (bareB op = true → readsB op = false ∧ writesB op = false ∧ jumpB op = false ∧ op ≠ 31 ∧ op ≠ 32 ∧ op ≠ 33 ∧ op ≠ 34 ∧ op ≠ 35 ∧ op ≠ 36 ∧ 1 ≤ op ∧ op ≤ 36) := by
  unfold readsB writesB jumpB bareB
  simp only [decide_eq_true_iff, decide_eq_false_iff_not]
  refine ⟨?_, ?_, ?_, ?_⟩ <;> intro h <;> omega

theorem instr_spell (i : In) (h : rightI i = true) (places : List (Bs × In)) : instrB places (spellW i) = .ok (bareIn i, wantB i) := by
  obtain ⟨f1, f2, f3, f4⟩ := op_facts i.op
  unfold spellW bareIn wantB
  cases right_way h with
  | lit h ha hp hn =>
    obtain ⟨g1, g2, g3, g4, g5, g6, g7, g8, g9, g10, g11⟩ := f1 h
    obtain ⟨-, n2, -⟩ := op_name i.op g10 g11 g5 g6
    rw [if_neg g6, if_neg g5, g3, g2]
    simp only [Bool.false_eq_true, if_false]
    rw [arg_instr places _ _ i.op g10 n2 g3]
    unfold argL
    rw [g2, if_neg (by decide), if_neg g4, if_neg (by omega), if_neg g9, if_pos ha]
    unfold askB operandB
    rw [h, place_lit _ _ (is_sz hn), lit_text _ _ hn]
    simp only [Bool.true_or, if_true]
    obtain ⟨op, kd, ar, pl, n⟩ := i
    simp at ha hp
    subst ha hp
    rfl
  | get h h1 h4 ht hn =>
    obtain ⟨g1, g2, g3, g4, g5, g6, g7, g8, g9, g10, g11⟩ := f1 h
    obtain ⟨-, n2, -⟩ := op_name i.op g10 g11 g5 g6
    rw [if_neg g6, if_neg g5, g3, g2]
    simp only [Bool.false_eq_true, if_false]
    rw [arg_instr places _ _ i.op g10 n2 g3]
    unfold argL
    rw [g2, if_neg (by decide), if_neg g4, if_neg (by omega), if_neg g9, if_neg (by omega)]
    unfold askB operandB
    rw [h, place_text _ _ _ h1 h4 ht]
    simp only [Bool.true_or, if_true]
    obtain ⟨op, kd, ar, pl, n⟩ := i
    simp at hn
    subst hn
    rfl
  | put h h1 h4 ht hn =>
    obtain ⟨g1, g2, g3, g4, g5, g6, g7, g8, g9, g10, g11⟩ := f2 h
    obtain ⟨-, n2, -⟩ := op_name i.op g10 g11 g5 g6
    rw [if_neg g6, if_neg g5, g3, g2]
    simp only [Bool.false_eq_true, if_false]
    rw [arg_instr places _ _ i.op g10 n2 g3]
    unfold argL
    rw [g2, if_neg (by decide), if_neg g4, if_neg (by omega), if_neg g9, if_neg (by omega)]
    unfold askB operandB
    rw [h, place_text _ _ _ (by omega) h4 ht]
    simp only [Bool.or_true, if_true]
    obtain ⟨op, kd, ar, pl, n⟩ := i
    simp at hn
    subst hn
    rfl
  | jump h hk ha h0 h1 hn =>
    obtain ⟨g1, g2, g3, g4, g5, g6, g7, g8, g9, g10, g11⟩ := f3 h
    obtain ⟨-, n2, -⟩ := op_name i.op g10 g11 g5 g6
    rw [if_neg g6, if_neg g5, g3, h]
    simp only [Bool.false_eq_true, if_false, if_true]
    rw [arg_instr places _ _ i.op g10 n2 g3]
    unfold argL
    rw [h, if_pos rfl]
    unfold askB
    rw [g1, g2, h, label_name _ (by omega)]
    rfl
  | bare h hk ha hp hn =>
    obtain ⟨g1, g2, g3, g4, g5, g6, g7, g8, g9, g10, g11⟩ := f4 h
    obtain ⟨n1, n2, n3⟩ := op_name i.op g10 g11 g5 g6
    rw [if_neg g6, if_neg g5, h, g3]
    simp only [Bool.false_eq_true, if_false, if_true]
    unfold instrB
    dsimp only
    rw [if_neg (by intro e; rw [e] at n3; exact absurd n3 (by decide)), if_neg (fun e => last_cap n3 (by decide) e.1), n2, h, if_pos rfl]
    obtain ⟨op, kd, ar, pl, n⟩ := i
    simp at hk ha hp hn
    subst hk ha hp hn
    rfl
  | close h hk ha hp hn =>
    rw [if_pos h, h]
    obtain ⟨op, kd, ar, pl, n⟩ := i
    simp at h hk ha hp hn
    subst h hk ha hp hn
    rfl
  | conv h hk ha hp hn =>
    have g3 : bareB i.op = false := by rw [h]; decide
    have g2 : jumpB i.op = false := by rw [h]; decide
    have g1 : readsB i.op = false := by rw [h]; decide
    have g0 : writesB i.op = false := by rw [h]; decide
    obtain ⟨-, n2, -⟩ := op_name i.op (by omega) (by omega) (by omega) (by omega)
    rw [if_neg (by omega), if_neg (by omega), g3, g2]
    simp only [Bool.false_eq_true, if_false]
    rw [arg_instr places _ _ i.op (by omega) n2 g3]
    unfold argL
    rw [g2, if_neg (by decide), if_pos h]
    unfold askB
    rw [g1, g0, g2, if_neg (by decide), if_neg (by decide), if_pos h, kind_name _ hk]
    obtain ⟨op, kd, ar, pl, n⟩ := i
    simp at ha hp hn
    subst ha hp hn
    rfl
  | opens h hk ha hr2 hp hn =>
    obtain ⟨k1, k2, k3, k4, k5, k6, k7, k8, k9, k10, k11⟩ := (op_facts i.pl).1 hr2
    obtain ⟨n1, n2, n3⟩ := op_name i.pl k10 k11 k5 k6
    have g2 : jumpB i.op = false := by rw [h]; decide
    rw [if_neg (by omega), if_pos h, g2]
    simp only [Bool.false_eq_true, if_false]
    unfold instrB
    dsimp only
    rw [if_neg (by
        intro e
        have := congrArg List.length e
        simp at this
        exact n1 this), if_pos ⟨by simp, by
        have : 0 < (opName i.pl).length := List.length_pos_iff.2 n1
        simp; omega⟩, List.dropLast_concat, n2]
    obtain ⟨op, kd, ar, pl, n⟩ := i
    simp at h hk ha hn
    subst h hk ha hn
    rfl
  | timer h hk h3 h4 h0 h1 hn hm =>
    have hg : bareB i.op = false ∧ jumpB i.op = false ∧ readsB i.op = false ∧ writesB i.op = false ∧ i.op ≠ 31 ∧ i.op ≠ 32 ∧ i.op ≠ 33 ∧ i.op ≠ 36 ∧ 1 ≤ i.op ∧ i.op ≤ 36 := by rcases h with h | h <;> rw [h] <;> decide
    obtain ⟨g3, g2, g1, g0, g4, g5, g6, g9, g10, g11⟩ := hg
    obtain ⟨-, n2, -⟩ := op_name i.op g10 g11 g5 g6
    rw [if_neg g6, if_neg g5, g3, g2]
    simp only [Bool.false_eq_true, if_false]
    rw [arg_instr places _ _ i.op g10 n2 g3]
    unfold argL
    rw [g2, if_neg (by decide), if_neg g4, if_pos h]
    unfold askB
    rw [g1, g0, g2, if_neg (by decide), if_neg (by decide), if_neg g4, if_neg g9, split_two (area_free _ _ (by decide) (by decide) (by decide) (by decide)) (itoa_free _ (by decide) (by decide))]
    dsimp only
    rw [spot_area _ _ (by omega) h4 h0 (by omega), itoa_pos _ (by omega), num_dec 4 _ (by omega) (by omega)]
    dsimp only
    obtain ⟨op, kd, ar, pl, n⟩ := i
    simp at hk hn
    subst hk
    rw [show ((n.toNat : Nat) : Int) = n by omega]
  | trig h hk h3 h4 h0 h1 hn =>
    have hg : bareB i.op = false ∧ jumpB i.op = false ∧ readsB i.op = false ∧ writesB i.op = false ∧ i.op ≠ 31 ∧ i.op ≠ 32 ∧ i.op ≠ 33 ∧ ¬ (i.op = 34 ∨ i.op = 35) ∧ 1 ≤ i.op ∧ i.op ≤ 36 := by rw [h]; decide
    obtain ⟨g3, g2, g1, g0, g4, g5, g6, g9, g10, g11⟩ := hg
    obtain ⟨-, n2, -⟩ := op_name i.op g10 g11 g5 g6
    rw [if_neg g6, if_neg g5, g3, g2]
    simp only [Bool.false_eq_true, if_false]
    rw [arg_instr places _ _ i.op g10 n2 g3]
    unfold argL
    rw [g2, if_neg (by decide), if_neg g4, if_neg g9, if_pos h]
    unfold askB
    rw [g1, g0, g2, if_neg (by decide), if_neg (by decide), if_neg g4, if_pos h, spot_area _ _ (by omega) h4 h0 (by omega)]
    obtain ⟨op, kd, ar, pl, n⟩ := i
    simp at hk hn
    subst hk hn
    rfl

/-! ### What is spelled has these words -/
/-- No blank, no semicolon, no newline. -/
def plainB (s : Bs) : Bool := s.all (fun c => decide (c ≠ 32 ∧ c ≠ 59 ∧ c ≠ 10))
theorem plain_free {s : Bs} (h : plainB s = true) : 32 ∉ s ∧ 59 ∉ s ∧ 10 ∉ s := by
  unfold plainB at h
  rw [List.all_eq_true] at h
  have hh : ∀ x ∈ s, x ≠ 32 ∧ x ≠ 59 ∧ x ≠ 10 := fun x hx => by simpa using h x hx
  exact ⟨fun e => (hh _ e).1 rfl, fun e => (hh _ e).2.1 rfl, fun e => (hh _ e).2.2 rfl⟩
theorem plain_of {s : Bs} (h : ∀ c, capB c = false → digitB c = false → c ≠ 37 → c ≠ 63 → c ≠ 44 → c ≠ 45 → c ≠ 35 → c ≠ 58 → c ≠ 40 → c ≠ 41 → c ∉ s) : plainB s = true := by
  unfold plainB
  rw [List.all_eq_true]
  intro x hx
  rw [decide_eq_true_iff]
  refine ⟨?_, ?_, ?_⟩ <;> rintro rfl <;> exact h _ (by decide) (by decide) (by decide) (by decide) (by decide) (by decide) (by decide) (by decide) (by decide) (by decide) hx
theorem arg_plain {i : In} (ha : szI i.kd ≠ 0 ∨ (i.op ≠ 31 ∧ readsB i.op = false ∧ writesB i.op = false)) : argL i ≠ [] ∧ plainB (argL i) = true := by
  have hn : nmI i.kd ≠ [] ∨ (i.op ≠ 31 ∧ readsB i.op = false ∧ writesB i.op = false) := ha.imp (fun h => (name_caps _ h).1) id
  constructor
  · unfold argL
    split
    · simp
    split
    · next h31 =>
      rcases hn with hn | hn
      · exact hn
      · exact absurd h31 hn.1
    split
    · simp
    split
    · exact area_ne _ _
    split <;> simp
  · refine plain_of fun c h1 h2 h3 h4 h5 h6 h7 h8 h9 h10 => ?_
    have hk : c ∉ nmI i.kd := by
      by_cases hs : szI i.kd = 0
      · have : nmI i.kd = [] := by
          unfold nmI nameI
          have := (not_congr (sz_iff i.kd)).1 (by simpa using hs)
          (repeat' split) <;> first | rfl | omega
        rw [this]; simp
      · exact caps_free (name_caps _ hs).2 h1
    have hd := fun u => dec_free u h2
    have hi := fun n => itoa_free n h2 h6
    have har := area_free i.ar i.pl h3 h1 h4 h2
    unfold argL
    split
    · simp only [List.mem_cons, not_or]
      exact ⟨(fun e => by rw [e] at h1; cases h1), hd _⟩
    split
    · exact hk
    split
    · simp only [List.mem_append, List.mem_cons, not_or]
      exact ⟨har, h5, hi _⟩
    split
    · exact har
    split
    · simp only [List.mem_append, List.mem_cons, not_or]
      exact ⟨hk, h7, hi _⟩
    · simp only [List.mem_append, List.mem_cons, not_or]
      exact ⟨har, h8, hk⟩

end Go.Proofs.Ytmlopacekoghkaa.Il

namespace Go.Proofs.Ytmlopacekoghkaa.Il
open Go.Proofs.Ytmlopacekoghkaa.Ic

theorem caps_plain {s : Bs} (h : s.all capB = true) : plainB s = true := plain_of fun _ h1 _ _ _ _ _ _ _ _ _ => caps_free h h1
/-- Has an operation one word more? -/
theorem arg_way {i : In} (h : rightI i = true) (h1 : i.op ≠ 33) (h2 : i.op ≠ 32) (h3 : bareB i.op = false) : szI i.kd ≠ 0 ∨ (i.op ≠ 31 ∧ readsB i.op = false ∧ writesB i.op = false) := by
  cases right_way h with
  | lit h ha hp hn => exact .inl (is_sz hn)
  | get h h1 h4 ht hn => exact .inl (there_bd ht).1
  | put h h1 h4 ht hn => exact .inl (there_bd ht).1
  | jump h hk ha h0 h1 hn => exact .inr (by obtain ⟨g1, g2, g3, g4, g5, g6, g7, g8, g9, g10, g11⟩ := (op_facts i.op).2.2.1 h; exact ⟨g4, g1, g2⟩)
  | bare h hk ha hp hn => rw [h] at h3; cases h3
  | close h hk ha hp hn => exact absurd h h1
  | conv h hk ha hp hn => exact .inl hk
  | opens h hk ha hr2 hp hn => exact absurd h h2
  | timer h hk h3 h4 h0 h1 hn hm => exact .inr (by rcases h with h | h <;> rw [h] <;> decide)
  | trig h hk h3 h4 h0 h1 hn => exact .inr (by rw [h]; decide)
theorem op_range {i : In} (h : rightI i = true) : 1 ≤ i.op ∧ i.op ≤ 36 := by
  obtain ⟨f1, f2, f3, f4⟩ := op_facts i.op
  cases right_way h with
  | lit h ha hp hn => have := f1 h; omega
  | get h h1 h4 ht hn => have := f1 h; omega
  | put h h1 h4 ht hn => have := f2 h; omega
  | jump h hk ha h0 h1 hn => have := f3 h; omega
  | bare h hk ha hp hn => have := f4 h; omega
  | close h hk ha hp hn => omega
  | conv h hk ha hp hn => omega
  | opens h hk ha hr2 hp hn => omega
  | timer h hk h3 h4 h0 h1 hn hm => omega
  | trig h hk h3 h4 h0 h1 hn => omega
theorem opens_name {i : In} (h : rightI i = true) (h32 : i.op = 32) : opName i.pl ≠ [] ∧ (opOf (opName i.pl) : Int) = i.pl ∧ (opName i.pl).all capB = true := by
  cases right_way h with
  | lit h ha hp hn => rw [h32] at h; exact absurd h (by decide)
  | get h h1 h4 ht hn => rw [h32] at h; exact absurd h (by decide)
  | put h h1 h4 ht hn => rw [h32] at h; exact absurd h (by decide)
  | jump h hk ha h0 h1 hn => rw [h32] at h; exact absurd h (by decide)
  | bare h hk ha hp hn => rw [h32] at h; exact absurd h (by decide)
  | close h hk ha hp hn => omega
  | conv h hk ha hp hn => omega
  | opens h hk ha hr2 hp hn =>
    obtain ⟨k1, k2, k3, k4, k5, k6, k7, k8, k9, k10, k11⟩ := (op_facts i.pl).1 hr2
    exact op_name i.pl k10 k11 k5 k6
  | timer h hk h3 h4 h0 h1 hn hm => omega
  | trig h hk h3 h4 h0 h1 hn => omega

/-- An instruction's words: one or two, none of which begins or ends as another line's. -/
theorem spell_form {i : In} (h : rightI i = true) : (∃ a, spellW i = [a] ∧ a ≠ [] ∧ plainB a = true ∧ a ≠ [86, 65, 82] ∧ a.getLast? ≠ some 58) ∨
    (∃ a b, spellW i = [a, b] ∧ a ≠ [] ∧ plainB a = true ∧ b ≠ [] ∧ plainB b = true ∧ a ≠ [86, 65, 82] ∧ a.getLast? ≠ some 58) := by
  have hvar : opOf [86, 65, 82] = 0 := by decide
  unfold spellW
  by_cases h33 : i.op = 33
  · rw [if_pos h33]
    exact .inl ⟨_, rfl, by simp, by decide, by decide, by decide⟩
  rw [if_neg h33]
  by_cases h32 : i.op = 32
  · rw [if_pos h32]
    obtain ⟨n1, n2, n3⟩ := opens_name h h32
    refine .inl ⟨_, rfl, by simp, ?_, ?_, ?_⟩
    · have := caps_plain n3
      unfold plainB at this ⊢
      rw [List.all_append, this]; decide
    · intro e
      have := congrArg List.getLast? e
      simp at this
    · simp
  rw [if_neg h32]
  have hr := op_range h
  obtain ⟨n1, n2, n3⟩ := op_name i.op hr.1 hr.2 h32 h33
  have hv : opName i.op ≠ [86, 65, 82] := fun e => by rw [e, hvar] at n2; simp at n2; omega
  have hl : (opName i.op).getLast? ≠ some 58 := last_cap n3 (by decide)
  by_cases hb : bareB i.op = true
  · rw [if_pos hb]
    exact .inl ⟨_, rfl, n1, caps_plain n3, hv, hl⟩
  · have hb2 : bareB i.op = false := by simpa using hb
    rw [if_neg hb]
    obtain ⟨a1, a2⟩ := arg_plain (arg_way h h33 h32 hb2)
    exact .inr ⟨_, _, rfl, n1, caps_plain n3, a1, a2, hv, hl⟩
theorem words_spell {i : In} (h : rightI i = true) : wordsB (spellL i) = spellW i ∧ 10 ∉ spellL i ∧ spellL i ≠ [] := by
  unfold spellL
  rw [if_pos h]
  rcases spell_form h with ⟨a, e, h1, h2, -, -⟩ | ⟨a, b, e, h1, h2, h3, h4, -, -⟩
  · rw [e]
    obtain ⟨p1, p2, p3⟩ := plain_free h2
    exact ⟨words_one h1 p1 p2, p3, h1⟩
  · rw [e]
    obtain ⟨p1, p2, p3⟩ := plain_free h2
    obtain ⟨q1, q2, q3⟩ := plain_free h4
    exact ⟨words_two h1 h3 p1 p2 q1 q2, by simp only [joinW, List.mem_append, List.mem_cons, not_or]; exact ⟨p3, by decide, q3⟩, by simp [joinW]⟩
theorem bare_right {i : In} (h : rightI i = true) : rightI (bareIn i) = true := by
  unfold bareIn
  split
  · next hj => exact way_right (.jump hj rfl rfl (by simp) (by simp) rfl)
  · exact h
theorem add_spell {st : Asm} {i : In} (h : rightI i = true) (hl : st.code.length < 200) (ln : Nat) : addB st (spellW i) ln = .ok ⟨st.code ++ [(bareIn i, wantB i, ln)], st.places, st.labels⟩ := by
  unfold addB
  rw [instr_spell i h]
  dsimp only
  rw [bare_right h, if_neg (by decide), if_neg (by omega)]
theorem line_spell {st : Asm} {i : In} (h : rightI i = true) (hl : st.code.length < 200) (ln : Nat) : lineB st (spellW i) ln = .ok ⟨st.code ++ [(bareIn i, wantB i, ln)], st.places, st.labels⟩ := by
  rw [← add_spell h hl ln]
  rcases spell_form h with ⟨a, e, -, -, h1, h2⟩ | ⟨a, b, e, -, -, -, -, h1, h2⟩
  · rw [e]
    unfold lineB
    dsimp only
    rw [if_neg h1, if_neg h2]
  · rw [e]
    unfold lineB
    dsimp only
    rw [if_neg h1, if_neg h2]

/-! ### Lines, one behind the other -/
def endL (ls : List Bs) : Bs := ls.flatMap fun l => l ++ [10]
theorem split_end (ls : List Bs) (h : ∀ l ∈ ls, 10 ∉ l) : splitB 10 (endL ls) = ls ++ [[]] := by
  induction ls with
  | nil => rfl
  | cons l ls ih =>
    unfold endL
    rw [List.flatMap_cons, List.append_assoc, List.singleton_append, split_app (h l (by simp))]
    have := ih (fun x hx => h x (by simp [hx]))
    unfold endL at this
    rw [this]; rfl
def printLines (led : List Nat) : Nat → List In → List Bs
  | k, [] => if k ∈ led then [labelL k ++ [58]] else []
  | k, i :: r => (if k ∈ led then [labelL k ++ [58]] else []) ++ spellL i :: printLines led (k + 1) r
theorem print_end (led : List Nat) : ∀ (l : List In) (k : Nat), printFrom led k l = endL (printLines led k l)
  | [], k => by
    unfold printFrom printLines
    split <;> simp [endL]
  | i :: r, k => by
    unfold printFrom printLines
    rw [print_end led r (k + 1)]
    split <;> simp [endL]
theorem label_plain (k : Nat) : plainB (labelL k ++ [58]) = true := by
  refine plain_of fun c h1 h2 h3 h4 h5 h6 h7 h8 h9 h10 => ?_
  unfold labelL
  simp only [List.cons_append, List.mem_cons, List.mem_append, not_or]
  exact ⟨(fun e => by rw [e] at h1; cases h1), dec_free _ h2, h8, by simp⟩
theorem label_ne (k : Nat) : labelL k ≠ [] := by unfold labelL; simp
theorem label_inj {a b : Nat} (h : labelL a = labelL b) : a = b := by
  unfold labelL at h
  exact dec_inj (List.cons.inj h).2
theorem label_line (st : Asm) (k ln : Nat) (hk : k < 1000000) (hn : look st.labels (labelL k) = none) : lineB st [labelL k ++ [58]] ln = .ok ⟨st.code, st.places, st.labels ++ [(labelL k, st.code.length)]⟩ := by
  unfold lineB
  dsimp only
  rw [if_neg (by
    intro e
    have := congrArg List.getLast? e
    simp at this), if_pos (by simp), List.dropLast_concat]
  have hnm : nameB (labelL k) = true := label_name k hk
  rw [hnm, if_pos rfl, hn]
  rfl
theorem look_map {f : Nat → Bs} (hf : ∀ a b, f a = f b → a = b) (l : List Nat) (p : Nat) : look (l.map fun j => (f j, j)) (f p) = if p ∈ l then some p else none := by
  unfold look
  induction l with
  | nil => rfl
  | cons a l ih =>
    rw [List.map_cons, List.find?_cons]
    by_cases h : a = p
    · subst h; simp
    · have hne : ¬ f a = f p := fun e => h (hf _ _ e)
      simp only [hne, decide_false]
      rw [ih]
      have : p ∈ a :: l ↔ p ∈ l := by simp [Ne.symm h]
      simp only [this]
def ledFrom (led : List Nat) (k n : Nat) : List Nat := (List.range' k n).filter fun j => decide (j ∈ led)
theorem led_cons (led : List Nat) (k n : Nat) : ledFrom led k (n + 1) = (if k ∈ led then [k] else []) ++ ledFrom led (k + 1) n := by
  unfold ledFrom
  rw [List.range'_succ, List.filter_cons]
  by_cases h : k ∈ led <;> simp [h]
def labs (l : List Nat) : List (Bs × Nat) := l.map fun j => (labelL j, j)

theorem numbered_app (a b : List Bs) : ∀ k, numbered k (a ++ b) = numbered k a ++ numbered (k + a.length) b := by
  induction a with
  | nil => intro k; rfl
  | cons x a ih =>
    intro k
    rw [List.cons_append, numbered, ih, numbered, List.length_cons, List.cons_append, show k + 1 + a.length = k + (a.length + 1) by omega]
theorem lines_app (a b : List (Nat × List Bs)) : ∀ st, linesB st (a ++ b) = match linesB st a with | .ok s => linesB s b | .error e => .error e := by
  induction a with
  | nil => intro st; rfl
  | cons x a ih =>
    intro st
    obtain ⟨ln, ws⟩ := x
    rw [List.cons_append, linesB, linesB]
    cases lineB st ws ln with
    | error e => rfl
    | ok s => exact ih s
theorem mem_look {done : List Nat} {k : Nat} (h : ∀ j ∈ done, j < k) : look (labs done) (labelL k) = none := by
  unfold labs
  rw [look_map (fun a b => label_inj), if_neg (fun hm => absurd (h k hm) (by omega))]

theorem lines_print (led : List Nat) : ∀ (l : List In) (k m : Nat) (st : Asm) (done : List Nat), (∀ i ∈ l, rightI i = true) → st.code.length = k → k + l.length ≤ 200 → st.labels = labs done → (∀ j ∈ done, j < k) →
    ∃ cs : List (In × Bs × Nat), cs.map (fun c => (c.1, c.2.1)) = l.map (fun i => (bareIn i, wantB i)) ∧ linesB st (numbered m (printLines led k l ++ [[]])) = .ok ⟨st.code ++ cs, st.places, labs (done ++ ledFrom led k (l.length + 1))⟩ := by
  -- the label, if there is one
  have hlab : ∀ (k : Nat) (st : Asm) (done : List Nat) (m : Nat), st.code.length = k → k ≤ 200 → st.labels = labs done → (∀ j ∈ done, j < k) →
      linesB st (numbered m (if k ∈ led then [labelL k ++ [58]] else [])) = .ok ⟨st.code, st.places, labs (done ++ (if k ∈ led then [k] else []))⟩ := by
    intro k st done m hk h2 hl hd
    by_cases h : k ∈ led
    · rw [if_pos h, if_pos h]
      obtain ⟨p1, p2, p3⟩ := plain_free (label_plain k)
      have e := label_line st k m (by omega) (by rw [hl]; exact mem_look hd)
      have e2 : linesB st (numbered m [labelL k ++ [58]]) = linesB st [(m, [labelL k ++ [58]])] := by
        rw [numbered, numbered, words_one (by simp) p1 p2]
      rw [e2, linesB, e]
      dsimp only
      rw [linesB, hl, hk]
      unfold labs
      rw [List.map_append]
      rfl
    · rw [if_neg h, if_neg h, List.append_nil, numbered, linesB, ← hl]
  intro l
  induction l with
  | nil =>
    intro k m st done _ hk h2 hl hd
    refine ⟨[], rfl, ?_⟩
    unfold printLines
    rw [numbered_app, lines_app, hlab k st done m hk (by simpa using h2) hl hd]
    dsimp only
    rw [numbered, numbered, words_nil, linesB]
    unfold lineB
    dsimp only
    rw [linesB, List.append_nil, List.length_nil, led_cons]
    simp [ledFrom]
  | cons i l ih =>
    intro k m st done hr hk h2 hl hd
    rw [List.length_cons] at h2
    obtain ⟨w1, w2, w3⟩ := words_spell (hr i (by simp))
    have hd2 : ∀ j ∈ done ++ (if k ∈ led then [k] else []), j < k + 1 := by
      intro j hj
      rcases List.mem_append.1 hj with hj | hj
      · have := hd j hj; omega
      · split at hj
        · simp at hj; omega
        · simp at hj
    have hst : ∀ ln, lineB ⟨st.code, st.places, labs (done ++ (if k ∈ led then [k] else []))⟩ (spellW i) ln = .ok ⟨st.code ++ [(bareIn i, wantB i, ln)], st.places, labs (done ++ (if k ∈ led then [k] else []))⟩ :=
      fun ln => line_spell (st := ⟨st.code, st.places, _⟩) (hr i (by simp)) (by show st.code.length < 200; omega) ln
    unfold printLines
    rw [List.append_assoc, numbered_app, lines_app, hlab k st done m hk (by omega) hl hd]
    dsimp only
    generalize (m + (if k ∈ led then [labelL k ++ [58]] else []).length) = m2
    obtain ⟨cs, hcs, hlin⟩ := ih (k + 1) (m2 + 1) ⟨st.code ++ [(bareIn i, wantB i, m2)], st.places, labs (done ++ (if k ∈ led then [k] else []))⟩ (done ++ (if k ∈ led then [k] else [])) (fun x hx => hr x (by simp [hx])) (by simp [hk]) (by omega) rfl hd2
    refine ⟨(bareIn i, wantB i, m2) :: cs, by simp [hcs], ?_⟩
    rw [List.cons_append, numbered, linesB, w1, hst]
    dsimp only
    rw [hlin, List.length_cons, led_cons led k (l.length + 1), List.append_assoc, List.append_assoc]
    rfl

theorem jumps_print (labels : List (Bs × Nat)) : ∀ (l : List In) (cs : List (In × Bs × Nat)), cs.map (fun c => (c.1, c.2.1)) = l.map (fun i => (bareIn i, wantB i)) → (∀ i ∈ l, rightI i = true) →
    (∀ i ∈ l, jumpB i.op = true → look labels (labelL i.pl.toNat) = some i.pl.toNat) → jumpsB labels cs = .ok l
  | [], cs, h, _, _ => by
    have : cs = [] := by simpa using h
    rw [this]; rfl
  | i :: l, [], h, _, _ => by simp at h
  | i :: l, (c, lab, ln) :: cs, h, hr, hl => by
    simp only [List.map_cons, List.cons.injEq, Prod.mk.injEq] at h
    obtain ⟨⟨rfl, rfl⟩, h3⟩ := h
    have ih := jumps_print labels l cs h3 (fun x hx => hr x (by simp [hx])) (fun x hx => hl x (by simp [hx]))
    unfold jumpsB
    rw [ih]
    by_cases hj : jumpB i.op = true
    · have hw : wantB i = labelL i.pl.toNat := by unfold wantB; rw [if_pos hj]
      rw [hw, if_neg (label_ne _), hl i (by simp) hj]
      dsimp only
      have hb : bareIn i = ⟨i.op, 0, 0, 0, 0⟩ := by unfold bareIn; rw [if_pos hj]
      rw [hb]
      have hway := right_way (hr i (by simp))
      obtain ⟨g1, g2, g3, g4, g5, g6, g7, g8, g9, g10, g11⟩ := (op_facts i.op).2.2.1 hj
      cases hway with
      | lit h ha hp hn => rw [h] at g1; cases g1
      | get h h1 h4 ht hn => rw [h] at g1; cases g1
      | put h h1 h4 ht hn => rw [h] at g2; cases g2
      | jump h hk ha h0 h1 hn =>
        obtain ⟨op, kd, ar, pl, n⟩ := i
        simp at hk ha hn h0
        subst hk ha hn
        simp [Int.toNat_of_nonneg h0]
      | bare h hk ha hp hn => rw [h] at g3; cases g3
      | close h hk ha hp hn => omega
      | conv h hk ha hp hn => omega
      | opens h hk ha hr2 hp hn => omega
      | timer h hk h3 h4 h0 h1 hn hm => omega
      | trig h hk h3 h4 h0 h1 hn => omega
    · have hw : wantB i = [] := by unfold wantB; rw [if_neg hj]
      have hb : bareIn i = i := by unfold bareIn; rw [if_neg hj]
      rw [hw, if_pos rfl, hb]

/-- What is printed is assembled to the same. -/
theorem asm_print (code : List In) (hp : printsB code = true) (hl : code.length ≤ 200) (hs : (printL code).length ≤ 4000) : asmB (printL code) = .ok code := by
  unfold printsB at hp
  rw [List.all_eq_true] at hp
  have hr : ∀ i ∈ code, rightI i = true := fun i hi => by have := hp i hi; simp at this; exact this.1
  have hj : ∀ i ∈ code, jumpB i.op = true → i.pl ≤ code.length := fun i hi h => by have := hp i hi; simp [h] at this; exact this.2
  have hfree : ∀ (l : List In) (k : Nat), (∀ i ∈ l, rightI i = true) → ∀ x ∈ printLines (ledB code) k l, 10 ∉ x := by
    intro l
    induction l with
    | nil =>
      intro k _ x hx
      unfold printLines at hx
      split at hx
      · simp at hx; subst hx; exact (plain_free (label_plain k)).2.2
      · simp at hx
    | cons i l ih =>
      intro k hr x hx
      unfold printLines at hx
      rw [List.mem_append, List.mem_cons] at hx
      rcases hx with hx | rfl | hx
      · split at hx
        · simp at hx; subst hx; exact (plain_free (label_plain k)).2.2
        · simp at hx
      · exact (words_spell (hr i (by simp))).2.1
      · exact ih (k + 1) (fun y hy => hr y (by simp [hy])) x hx
  unfold asmB
  rw [if_neg (by omega)]
  unfold printL
  rw [print_end, split_end _ (hfree code 0 hr)]
  unfold asmL
  obtain ⟨cs, h1, h2⟩ := lines_print (ledB code) code 0 1 ⟨[], [], []⟩ [] hr rfl (by omega) rfl (by simp)
  rw [h2]
  dsimp only
  rw [List.nil_append, List.nil_append]
  refine jumps_print _ code cs h1 hr (fun i hi hj2 => ?_)
  unfold labs
  rw [look_map (fun a b => label_inj), if_pos]
  have hpl := hj i hi hj2
  unfold ledFrom
  rw [List.mem_filter]
  refine ⟨by rw [List.mem_range'_1]; omega, ?_⟩
  rw [decide_eq_true_iff]
  unfold ledB
  exact List.mem_map.2 ⟨i, List.mem_filter.2 ⟨hi, hj2⟩, rfl⟩

end Go.Proofs.Ytmlopacekoghkaa.Il

namespace Go.Proofs.Ytmlopacekoghkaa.Il
open Go.Proofs.Ytmlopacekoghkaa.Ic

/-! ### Twins -/
def dbl (s : Bs) : Bs := s.flatMap fun c => if c = 32 then [32, 32] else [c]
def tailW : Bs := [32, 59, 32, 97, 58, 32, 86, 65, 82]
def twinL (s : Bs) : Bs := 32 :: 32 :: (dbl s ++ tailW)
def twinLines (ls : List Bs) : List Bs := ls.flatMap fun l => [twinL l, []]
def twinB (text : Bs) : Bs := endL (twinLines (splitB 10 text))
theorem dbl_cons (c : UInt8) (s : Bs) : dbl (c :: s) = (if c = 32 then [32, 32] else [c]) ++ dbl s := by unfold dbl; rw [List.flatMap_cons]
theorem dbl_mem {c : UInt8} {s : Bs} : c ∈ dbl s ↔ c ∈ s := by
  induction s with
  | nil => simp [dbl]
  | cons x s ih =>
    rw [dbl_cons, List.mem_append, ih, List.mem_cons]
    split
    · next h => subst h; simp
    · simp
theorem split_parts (c : UInt8) : ∀ (s : Bs), ∀ l ∈ splitB c s, c ∉ l
  | [], l, h => by simp [splitB] at h; subst h; simp
  | x :: s, l, h => by
    have ih := split_parts c s
    unfold splitB at h
    split at h
    · rcases List.mem_cons.1 h with rfl | h
      · simp
      · exact ih l h
    · next hne =>
      split at h
      · simp at h; subst h; simp; exact fun e => hne e.symm
      · next hd tl e =>
        rw [e] at ih
        rcases List.mem_cons.1 h with rfl | h
        · simp only [List.mem_cons, not_or]
          exact ⟨fun e => hne e.symm, ih hd (by simp)⟩
        · exact ih l (by simp [h])
/-- The parts that aren't empty. -/
def fullB (l : List Bs) : List Bs := l.filter fun x => decide (x ≠ [])
theorem words_full (s : Bs) : wordsB s = fullB (splitB 32 (cutB 59 s)) := rfl
/-- Doubling blanks leaves the first part, and the others that aren't empty. -/
theorem split_dbl (e : Bs) (he : splitB 32 e = [e] ∨ ∃ r, splitB 32 e = [] :: r ∧ fullB r = []) : ∀ (s : Bs), ∃ h t t', splitB 32 s = h :: t ∧ splitB 32 (dbl s ++ e) = (h ++ (if t = [] then (splitB 32 e).headD [] else [])) :: t' ∧ (e = [] ∨ (∃ r, splitB 32 e = [] :: r ∧ fullB r = []) → fullB t' = fullB t)
  | [] => by
    cases hs : splitB 32 e with
    | nil => exact absurd hs (split_ne _ _)
    | cons a r =>
      refine ⟨[], [], r, rfl, by simp [dbl, hs], fun h => ?_⟩
      rcases h with h | ⟨r2, h1, h2⟩
      · subst h; simp [splitB] at hs; rw [← hs.2]
      · injection h1 with _ h1
        rw [h1, h2]; rfl
  | x :: s => by
    obtain ⟨h, t, t', h1, h2, h3⟩ := split_dbl e he s
    by_cases hx : x = 32
    · subst hx
      refine ⟨[], h :: t, [] :: (h ++ (if t = [] then (splitB 32 e).headD [] else [])) :: t', by rw [splitB, if_pos rfl, h1], ?_, ?_⟩
      · rw [dbl_cons, if_pos rfl]
        simp only [List.cons_append, List.nil_append]
        rw [splitB, if_pos rfl, splitB, if_pos rfl, h2]
        simp
      · intro hh
        have := h3 hh
        have hhd : (if t = [] then (splitB 32 e).headD [] else []) = ([] : Bs) := by
          split
          · rcases hh with rfl | ⟨r, hr, _⟩
            · rfl
            · rw [hr]; rfl
          · rfl
        rw [hhd, List.append_nil]
        unfold fullB at this ⊢
        rw [List.filter_cons, if_neg (by simp), List.filter_cons, List.filter_cons, this]
    · refine ⟨x :: h, t, t', by rw [splitB, if_neg hx, h1], ?_, h3⟩
      rw [dbl_cons, if_neg hx, List.cons_append, List.nil_append, List.cons_append, splitB, if_neg hx, h2, List.cons_append]
theorem full_dbl (s e : Bs) (he : e = [] ∨ e = [32]) : fullB (splitB 32 (dbl s ++ e)) = fullB (splitB 32 s) := by
  obtain ⟨h, t, t', h1, h2, h3⟩ := split_dbl e (by rcases he with rfl | rfl; exact .inl rfl; exact .inr ⟨[[]], rfl, rfl⟩) s
  have hh : fullB t' = fullB t := h3 (by rcases he with rfl | rfl; exact .inl rfl; exact .inr ⟨[[]], rfl, rfl⟩)
  have hhd : (if t = [] then (splitB 32 e).headD [] else []) = ([] : Bs) := by
    split
    · rcases he with rfl | rfl <;> rfl
    · rfl
  rw [h1, h2, hhd, List.append_nil]
  unfold fullB at hh ⊢
  rw [List.filter_cons, List.filter_cons, hh]
theorem full_blank (s : Bs) : fullB (splitB 32 (32 :: s)) = fullB (splitB 32 s) := by
  rw [splitB, if_pos rfl]
  unfold fullB
  rw [List.filter_cons, if_neg (by simp)]
theorem cut_dbl : ∀ (s : Bs), cutB 59 (dbl s ++ tailW) = dbl (cutB 59 s) ++ (if 59 ∈ s then [] else [32])
  | [] => by simp [dbl, cutB, tailW]
  | x :: s => by
    have ih := cut_dbl s
    unfold cutB at ih ⊢
    by_cases h59 : x = 59
    · subst h59
      rw [dbl_cons, if_neg (by decide)]
      simp [dbl]
    · have e0 : (x :: s).takeWhile (fun x => decide (x ≠ 59)) = x :: s.takeWhile (fun x => decide (x ≠ 59)) := by rw [List.takeWhile_cons, if_pos (by simpa using h59)]
      rw [e0, dbl_cons, dbl_cons]
      have hm : (59 ∈ x :: s) ↔ 59 ∈ s := by simp [Ne.symm h59]
      simp only [hm]
      by_cases hx : x = 32
      · subst hx
        simp only [if_true, List.cons_append, List.nil_append]
        rw [List.takeWhile_cons, if_pos (by decide), List.takeWhile_cons, if_pos (by decide), ih]
      · simp only [if_neg hx, List.cons_append, List.nil_append]
        rw [List.takeWhile_cons, if_pos (by simpa using h59), ih]
theorem words_twin (s : Bs) : wordsB (twinL s) = wordsB s := by
  rw [words_full, words_full]
  have e : cutB 59 (twinL s) = 32 :: 32 :: (dbl (cutB 59 s) ++ (if 59 ∈ s then [] else [32])) := by
    rw [← cut_dbl]
    unfold twinL cutB
    rw [List.takeWhile_cons, if_pos (by decide), List.takeWhile_cons, if_pos (by decide)]
  rw [e, full_blank, full_blank, full_dbl _ _ (by split <;> simp)]

/-- Lines of other numbers. -/
def shiftC (c : In × Bs × Nat) : In × Bs × Nat := (c.1, c.2.1, 2 * c.2.2 - 1)
def shiftS (s : Asm) : Asm := ⟨s.code.map shiftC, s.places, s.labels⟩
def shiftE {β γ : Type} (g : β → γ) : Except (Nat × Nat) β → Except (Nat × Nat) γ
  | .ok s => .ok (g s)
  | .error (e, l) => .error (e, 2 * l - 1)
def mapE (g : Asm → Asm) : Except Nat Asm → Except Nat Asm
  | .ok s => .ok (g s)
  | .error e => .error e
theorem add_shift (st : Asm) (ws : List Bs) (ln : Nat) : addB (shiftS st) ws (2 * ln - 1) = mapE shiftS (addB st ws ln) := by
  unfold addB
  show (match instrB st.places ws with | .error e => _ | .ok (i, lab) => _) = _
  cases instrB st.places ws with
  | error e => rfl
  | ok q =>
    obtain ⟨i, lab⟩ := q
    dsimp only
    by_cases h : rightI i = false
    · rw [if_pos h, if_pos h]; rfl
    · rw [if_neg h, if_neg h]
      have hl : (shiftS st).code.length = st.code.length := by simp [shiftS]
      rw [hl]
      by_cases h2 : 200 ≤ st.code.length
      · rw [if_pos h2, if_pos h2]; rfl
      · rw [if_neg h2, if_neg h2]
        simp [mapE, shiftS, shiftC]
theorem line_shift (st : Asm) (ws : List Bs) (ln : Nat) : lineB (shiftS st) ws (2 * ln - 1) = mapE shiftS (lineB st ws ln) := by
  cases ws with
  | nil => rfl
  | cons a rest =>
    unfold lineB
    dsimp only
    by_cases hv : a = [86, 65, 82]
    · rw [if_pos hv, if_pos hv]
      rcases rest with _ | ⟨nm, _ | ⟨t, _ | ⟨p, _ | ⟨q, r⟩⟩⟩⟩
      · rfl
      · rfl
      · rfl
      · dsimp only
        by_cases h1 : nameB nm = true ∧ t = [65, 84]
        · rw [if_pos h1, if_pos h1]
          cases placeB p with
          | none => rfl
          | some i =>
            dsimp only
            by_cases h2 : thereB i.pl i.kd = true
            · rw [if_pos h2, if_pos h2]
              show (match look st.places nm with | some _ => _ | none => _) = _
              cases look st.places nm <;> rfl
            · rw [if_neg h2, if_neg h2]; rfl
        · rw [if_neg h1, if_neg h1]; rfl
      · rfl
    · rw [if_neg hv, if_neg hv]
      by_cases hl : a.getLast? = some 58
      · rw [if_pos hl, if_pos hl]
        by_cases h1 : nameB a.dropLast = true
        · rw [if_pos h1, if_pos h1]
          show (match look st.labels a.dropLast with | some _ => _ | none => _) = _
          have hlen : (shiftS st).code.length = st.code.length := by simp [shiftS]
          cases look st.labels a.dropLast with
          | some _ => rfl
          | none =>
            dsimp only
            rw [hlen]
            by_cases h2 : rest = []
            · rw [if_pos h2, if_pos h2]; rfl
            · rw [if_neg h2, if_neg h2]
              exact add_shift ⟨st.code, st.places, st.labels ++ [(a.dropLast, st.code.length)]⟩ rest ln
        · rw [if_neg h1, if_neg h1]; rfl
      · rw [if_neg hl, if_neg hl]
        exact add_shift st (a :: rest) ln
theorem lines_twin : ∀ (ls : List Bs) (m : Nat) (st : Asm), 1 ≤ m → linesB (shiftS st) (numbered (2 * m - 1) (twinLines ls)) = shiftE shiftS (linesB st (numbered m ls))
  | [], _, _, _ => rfl
  | l :: ls, m, st, hm => by
    have ih := fun st' => lines_twin ls (m + 1) st' (by omega)
    have e : twinLines (l :: ls) = twinL l :: [] :: twinLines ls := rfl
    rw [e, numbered, numbered, numbered, words_twin, words_nil, linesB, linesB, line_shift]
    cases lineB st (wordsB l) m with
    | error e => rfl
    | ok s =>
      dsimp only [mapE]
      rw [linesB]
      show linesB (shiftS s) _ = _
      rw [show 2 * m - 1 + 1 + 1 = 2 * (m + 1) - 1 by omega, ih]
theorem lines_end (ls : List Bs) (m : Nat) (st : Asm) : linesB st (numbered m (ls ++ [[]])) = linesB st (numbered m ls) := by
  rw [numbered_app, lines_app]
  cases linesB st (numbered m ls) with
  | error e => rfl
  | ok s =>
    dsimp only
    rw [numbered, numbered, words_nil]
    rfl
theorem jumps_shift (labels : List (Bs × Nat)) : ∀ (cs : List (In × Bs × Nat)), jumpsB labels (cs.map shiftC) = shiftE id (jumpsB labels cs)
  | [] => rfl
  | (i, lab, ln) :: cs => by
    have ih := jumps_shift labels cs
    show jumpsB labels ((i, lab, 2 * ln - 1) :: cs.map shiftC) = _
    unfold jumpsB
    rw [ih]
    by_cases h : lab = []
    · rw [if_pos h, if_pos h]
      cases jumpsB labels cs <;> rfl
    · rw [if_neg h, if_neg h]
      cases look labels lab with
      | none => rfl
      | some k =>
        dsimp only
        cases jumpsB labels cs <;> rfl
theorem twin_free (text : Bs) : ∀ l ∈ twinLines (splitB 10 text), 10 ∉ l := by
  intro l hl
  unfold twinLines at hl
  rw [List.mem_flatMap] at hl
  obtain ⟨x, hx, hl⟩ := hl
  have hf := split_parts 10 text x hx
  simp at hl
  rcases hl with rfl | rfl
  · unfold twinL
    simp only [List.mem_cons, List.mem_append, not_or, dbl_mem]
    exact ⟨by decide, by decide, hf, by decide⟩
  · simp
/-- A twin is assembled as the text is, but for the line that an error is told of. -/
theorem asm_twin (text : Bs) (h : text.length ≤ 4000) (h2 : (twinB text).length ≤ 4000) : asmB (twinB text) = shiftE id (asmB text) := by
  unfold asmB
  rw [if_neg (by omega), if_neg (by omega)]
  unfold twinB
  rw [split_end _ (twin_free text)]
  unfold asmL
  rw [lines_end]
  have := lines_twin (splitB 10 text) 1 ⟨[], [], []⟩ (by omega)
  have e : shiftS ⟨[], [], []⟩ = ⟨[], [], []⟩ := rfl
  rw [e] at this
  rw [this]
  cases linesB ⟨[], [], []⟩ (numbered 1 (splitB 10 text)) with
  | error e => rfl
  | ok s => exact jumps_shift s.labels s.code

/-! ### Names -/
def varL (k : Nat) : Bs := 118 :: Lib.decDigits k
def viaB (i : In) : Bool := decide (0 < i.ar) && decide (szI i.kd ≠ 0)
def nameLines (k : Nat) (i : In) : List Bs :=
  if viaB i then [[86, 65, 82, 32] ++ varL k ++ [32, 65, 84, 32] ++ argL i, opName i.op ++ [32] ++ varL k] else [spellL i]
def namesFrom : Nat → List In → List Bs
  | _, [] => []
  | k, i :: r => nameLines k i ++ namesFrom (k + 1) r
def namesB (code : List In) : Bs := endL (namesFrom 0 code)
theorem var_inj {a b : Nat} (h : varL a = varL b) : a = b := by
  unfold varL at h
  exact dec_inj (List.cons.inj h).2
theorem var_name (u : Nat) (h : u < 1000000) : nameB (varL u) = true := by
  unfold varL nameB
  have h1 := dec_length_le 6 u (by omega) (by omega)
  have h2 : (Lib.decDigits u).all (fun x => letterB x || digitB x || decide (x = 95)) = true := by
    rw [List.all_eq_true]
    intro x hx
    simp [dec_mem hx]
  dsimp only
  rw [h2]
  have h3 : decide ((Lib.decDigits u).length < 16) = true := by rw [decide_eq_true_iff]; omega
  rw [h3]
  decide
theorem var_free (u : Nat) {c : UInt8} (h : digitB c = false) (h118 : c ≠ 118) : c ∉ varL u := by
  unfold varL
  simp only [List.mem_cons, not_or]
  exact ⟨h118, dec_free u h⟩
theorem var_plain (u : Nat) : varL u ≠ [] ∧ 32 ∉ varL u ∧ 59 ∉ varL u ∧ 10 ∉ varL u := ⟨by unfold varL; simp, var_free u (by decide) (by decide), var_free u (by decide) (by decide), var_free u (by decide) (by decide)⟩
theorem words_four {a b c d : Bs} (ha : a ≠ [] ∧ 32 ∉ a ∧ 59 ∉ a) (hb : b ≠ [] ∧ 32 ∉ b ∧ 59 ∉ b) (hc : c ≠ [] ∧ 32 ∉ c ∧ 59 ∉ c) (hd : d ≠ [] ∧ 32 ∉ d ∧ 59 ∉ d) : wordsB (a ++ 32 :: (b ++ 32 :: (c ++ 32 :: d))) = [a, b, c, d] := by
  unfold wordsB
  rw [cut_free (by simp only [List.mem_append, List.mem_cons, not_or]; exact ⟨ha.2.2, by decide, hb.2.2, by decide, hc.2.2, by decide, hd.2.2⟩), split_app ha.2.1, split_app hb.2.1, split_app hc.2.1, split_free hd.2.1]
  simp [ha.1, hb.1, hc.1, hd.1]
theorem via_way {i : In} (h : rightI i = true) (hv : viaB i = true) : 1 ≤ i.ar ∧ i.ar ≤ 4 ∧ thereB i.pl i.kd = true ∧ i.n = 0 ∧ (readsB i.op = true ∨ writesB i.op = true) := by
  unfold viaB at hv
  simp at hv
  cases right_way h with
  | lit h ha hp hn => omega
  | get h h1 h4 ht hn => exact ⟨h1, h4, ht, hn, .inl h⟩
  | put h h1 h4 ht hn => exact ⟨by omega, h4, ht, hn, .inr h⟩
  | jump h hk ha h0 h1 hn => omega
  | bare h hk ha hp hn => omega
  | close h hk ha hp hn => omega
  | conv h hk ha hp hn => omega
  | opens h hk ha hr2 hp hn => omega
  | timer h hk h3 h4 h0 h1 hn hm => rw [hk] at hv; exact absurd (show szI 0 = 0 by decide) hv.2
  | trig h hk h3 h4 h0 h1 hn => rw [hk] at hv; exact absurd (show szI 0 = 0 by decide) hv.2
theorem via_arg {i : In} (h : rightI i = true) (hv : viaB i = true) : argL i = areaL i.ar i.pl ++ 58 :: nmI i.kd ∧ spellW i = [opName i.op, argL i] ∧ opName i.op ≠ [] ∧ (opOf (opName i.op) : Int) = i.op ∧ (opName i.op).all capB = true ∧ bareB i.op = false ∧ jumpB i.op = false ∧ 1 ≤ i.op := by
  obtain ⟨h1, h4, ht, hn, ho⟩ := via_way h hv
  obtain ⟨f1, f2, -, -⟩ := op_facts i.op
  have hh : jumpB i.op = false ∧ bareB i.op = false ∧ i.op ≠ 31 ∧ i.op ≠ 32 ∧ i.op ≠ 33 ∧ i.op ≠ 34 ∧ i.op ≠ 35 ∧ i.op ≠ 36 ∧ 1 ≤ i.op ∧ i.op ≤ 36 := by
    rcases ho with ho | ho
    · exact (f1 ho).2
    · exact (f2 ho).2
  obtain ⟨g2, g3, g4, g5, g6, g7, g8, g9, g10, g11⟩ := hh
  obtain ⟨n1, n2, n3⟩ := op_name i.op g10 g11 g5 g6
  refine ⟨?_, ?_, n1, n2, n3, g3, g2, g10⟩
  · unfold argL
    rw [g2, if_neg (by decide), if_neg g4, if_neg (by omega), if_neg g9, if_neg (by omega)]
  · unfold spellW
    rw [if_neg g6, if_neg g5, g3, if_neg (by decide)]
theorem look_none {l : List (Bs × In)} {k : Nat} (h : ∀ p ∈ l, ∃ j, j < k ∧ p.1 = varL j) : look l (varL k) = none := by
  unfold look
  rw [List.find?_eq_none.2]
  · rfl
  · intro p hp
    obtain ⟨j, hj, e⟩ := h p hp
    rw [e]
    simp
    intro e2
    have := var_inj e2
    omega
theorem look_last {l : List (Bs × In)} {k : Nat} {i : In} (h : look l (varL k) = none) : look (l ++ [(varL k, i)]) (varL k) = some i := by
  unfold look at h ⊢
  rw [List.find?_append]
  cases hf : l.find? (fun p => decide (p.1 = varL k)) with
  | none => simp
  | some p => rw [hf] at h; cases h
theorem lines_names : ∀ (l : List In) (k m : Nat) (st : Asm), (∀ i ∈ l, rightI i = true ∧ jumpB i.op = false) → st.code.length + l.length ≤ 200 → k + l.length ≤ 1000 → (∀ p ∈ st.places, ∃ j, j < k ∧ p.1 = varL j) →
    ∃ (cs : List (In × Bs × Nat)) (ps : List (Bs × In)), cs.map (fun c => (c.1, c.2.1)) = l.map (fun i => (i, [])) ∧ linesB st (numbered m (namesFrom k l)) = .ok ⟨st.code ++ cs, ps, st.labels⟩
  | [], k, m, st, _, _, _, _ => ⟨[], st.places, rfl, by rw [List.append_nil]; rfl⟩
  | i :: l, k, m, st, hr, h2, hk, hp => by
    obtain ⟨hri, hji⟩ := hr i (by simp)
    rw [List.length_cons] at h2 hk
    have hbare : bareIn i = i := by unfold bareIn; rw [hji]; rfl
    have hwant : wantB i = [] := by unfold wantB; rw [hji]; rfl
    unfold namesFrom nameLines
    by_cases hv : viaB i = true
    · rw [if_pos hv]
      obtain ⟨a1, a2, a3, a4, a5, a6, a7, a8⟩ := via_arg hri hv
      obtain ⟨h1, h4, ht, hn, ho⟩ := via_way hri hv
      obtain ⟨q1, q2⟩ := arg_plain (.inl (there_bd ht).1)
      obtain ⟨q3, q4, q5⟩ := plain_free q2
      obtain ⟨v1, v2, v3, v4⟩ := var_plain k
      have w1 : wordsB ([86, 65, 82, 32] ++ varL k ++ [32, 65, 84, 32] ++ argL i) = [[86, 65, 82], varL k, [65, 84], argL i] := by
        have := words_four (a := [86, 65, 82]) (b := varL k) (c := [65, 84]) (d := argL i) ⟨by decide, by decide, by decide⟩ ⟨v1, v2, v3⟩ ⟨by decide, by decide, by decide⟩ ⟨q1, q3, q4⟩
        rw [← this]
        simp
      obtain ⟨p1, p2, p3⟩ := plain_free (caps_plain a5)
      have w2 : wordsB (opName i.op ++ [32] ++ varL k) = [opName i.op, varL k] := by
        have := words_two a3 v1 p1 p2 v2 v3
        rw [← this]
        simp
      have hnone := look_none hp
      have e1 : lineB st [[86, 65, 82], varL k, [65, 84], argL i] m = .ok ⟨st.code, st.places ++ [(varL k, ⟨0, i.kd, i.ar, i.pl, 0⟩)], st.labels⟩ := by
        unfold lineB
        dsimp only
        rw [if_pos rfl, if_pos ⟨var_name k (by omega), rfl⟩, a1, place_text _ _ _ h1 h4 ht]
        dsimp only
        rw [ht, if_pos rfl, hnone]
      have hpv : placeB (varL k) = none := by
        unfold placeB
        rw [split_free (var_free k (by decide) (by decide))]
      have hlv : litB (varL k) = none := by
        unfold litB
        rw [split_free (var_free k (by decide) (by decide))]
      have e2 : lineB ⟨st.code, st.places ++ [(varL k, ⟨0, i.kd, i.ar, i.pl, 0⟩)], st.labels⟩ [opName i.op, varL k] (m + 1) = .ok ⟨st.code ++ [(i, [], m + 1)], st.places ++ [(varL k, ⟨0, i.kd, i.ar, i.pl, 0⟩)], st.labels⟩ := by
        have hnv : opName i.op ≠ [86, 65, 82] := fun e => by
          rw [e, show opOf [86, 65, 82] = 0 by decide] at a4; simp at a4; omega
        unfold lineB
        dsimp only
        rw [if_neg hnv, if_neg (last_cap a5 (by decide))]
        unfold addB
        dsimp only
        rw [arg_instr _ _ _ i.op a8 a4 a6]
        unfold askB operandB
        rw [if_pos (by rcases ho with ho | ho <;> simp [ho]), hpv]
        dsimp only
        have hnl : (if readsB i.op = true then litB (varL k) else none) = none := by split; exact hlv; rfl
        rw [hnl]
        dsimp only
        rw [var_name k (by omega), if_pos rfl, look_last hnone]
        dsimp only
        have e3 : (⟨i.op, i.kd, i.ar, i.pl, 0⟩ : In) = i := by
          obtain ⟨op, kd, ar, pl, n⟩ := i
          simp at hn
          subst hn; rfl
        rw [e3, hri, if_neg (by decide), if_neg (by omega)]
      obtain ⟨cs, ps, g1, g2⟩ := lines_names l (k + 1) (m + 1 + 1) ⟨st.code ++ [(i, [], m + 1)], st.places ++ [(varL k, ⟨0, i.kd, i.ar, i.pl, 0⟩)], st.labels⟩ (fun x hx => hr x (by simp [hx])) (by simp; omega) (by omega) (by
        intro p hp2
        rcases List.mem_append.1 hp2 with hp2 | hp2
        · obtain ⟨j, hj, e⟩ := hp p hp2
          exact ⟨j, by omega, e⟩
        · simp at hp2
          exact ⟨k, by omega, by rw [hp2]⟩)
      refine ⟨(i, [], m + 1) :: cs, ps, by simp [g1], ?_⟩
      show linesB st (numbered m (([86, 65, 82, 32] ++ varL k ++ [32, 65, 84, 32] ++ argL i) :: (opName i.op ++ [32] ++ varL k) :: namesFrom (k + 1) l)) = _
      rw [numbered, numbered, w1, w2, linesB, e1]
      dsimp only
      rw [linesB, e2]
      dsimp only
      rw [g2]
      simp
    · rw [if_neg hv]
      have e1 := line_spell (st := st) hri (by omega) m
      rw [hbare, hwant] at e1
      obtain ⟨w1, -, -⟩ := words_spell hri
      obtain ⟨cs, ps, g1, g2⟩ := lines_names l (k + 1) (m + 1) ⟨st.code ++ [(i, [], m)], st.places, st.labels⟩ (fun x hx => hr x (by simp [hx])) (by simp; omega) (by omega) (by
        intro p hp2
        obtain ⟨j, hj, e⟩ := hp p hp2
        exact ⟨j, by omega, e⟩)
      refine ⟨(i, [], m) :: cs, ps, by simp [g1], ?_⟩
      rw [List.cons_append, List.nil_append, numbered, w1, linesB, e1]
      dsimp only
      rw [g2]
      simp
theorem jumps_none (labels : List (Bs × Nat)) : ∀ (l : List In) (cs : List (In × Bs × Nat)), cs.map (fun c => (c.1, c.2.1)) = l.map (fun i => (i, [])) → jumpsB labels cs = .ok l
  | [], cs, h => by
    have : cs = [] := by simpa using h
    rw [this]; rfl
  | i :: l, [], h => by simp at h
  | i :: l, (c, lab, ln) :: cs, h => by
    simp only [List.map_cons, List.cons.injEq, Prod.mk.injEq] at h
    obtain ⟨⟨rfl, rfl⟩, h3⟩ := h
    unfold jumpsB
    rw [jumps_none labels l cs h3, if_pos rfl]
theorem names_free : ∀ (l : List In) (k : Nat), (∀ i ∈ l, rightI i = true) → ∀ x ∈ namesFrom k l, 10 ∉ x
  | [], _, _, x, hx => by simp [namesFrom] at hx
  | i :: l, k, hr, x, hx => by
    have hri := hr i (by simp)
    unfold namesFrom at hx
    rcases List.mem_append.1 hx with hx | hx
    · unfold nameLines at hx
      split at hx
      · next hv =>
        obtain ⟨a1, a2, a3, a4, a5, a6, a7, a8⟩ := via_arg hri hv
        obtain ⟨h1, h4, ht, hn, ho⟩ := via_way hri hv
        obtain ⟨q1, q2⟩ := arg_plain (.inl (there_bd ht).1)
        obtain ⟨v1, v2, v3, v4⟩ := var_plain k
        simp only [List.mem_cons, List.not_mem_nil, or_false] at hx
        rcases hx with rfl | rfl
        · simp only [List.mem_append, not_or]
          exact ⟨⟨⟨by decide, v4⟩, by decide⟩, (plain_free q2).2.2⟩
        · simp only [List.mem_append, not_or]
          exact ⟨⟨(plain_free (caps_plain a5)).2.2, by decide⟩, v4⟩
      · simp at hx; subst hx; exact (words_spell hri).2.1
    · exact names_free l (k + 1) (fun y hy => hr y (by simp [hy])) x hx
/-- A name that stands for a place is that place. -/
theorem asm_names (code : List In) (hr : ∀ i ∈ code, rightI i = true ∧ jumpB i.op = false) (hl : code.length ≤ 200) (hs : (namesB code).length ≤ 4000) : asmB (namesB code) = .ok code := by
  unfold asmB
  rw [if_neg (by omega)]
  unfold namesB
  rw [split_end _ (names_free code 0 (fun i hi => (hr i hi).1))]
  unfold asmL
  rw [lines_end]
  obtain ⟨cs, ps, h1, h2⟩ := lines_names code 0 1 ⟨[], [], []⟩ hr (by simpa using hl) (by omega) (by simp)
  rw [h2]
  exact jumps_none _ code _ (by simpa using h1)

end Go.Proofs.Ytmlopacekoghkaa.Il
