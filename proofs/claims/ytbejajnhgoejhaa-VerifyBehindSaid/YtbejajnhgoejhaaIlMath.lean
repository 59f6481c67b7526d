/-
  Plain facts on programs as texts: instructions, their words, lines, and what is assembled. No program is named here. Conditions: none.
-/
import Derived.Lib.ItoaNum
import Derived.Test.YtbejajnhgoejhaaIcMath
namespace Go.Proofs.Ytbejajnhgoejhaa.Il
open Go.Proofs.Ytbejajnhgoejhaa.Ic

abbrev Bs := List UInt8
/-- An instruction. -/
structure In where
  op : Int
  kd : Int
  ar : Int
  pl : Int
  n : Int

def readsB (op : Int) : Bool := decide (op = 1 ∨ op = 2 ∨ (7 ≤ op ∧ op ≤ 12) ∨ (14 ≤ op ∧ op ≤ 24))
def writesB (op : Int) : Bool := decide (3 ≤ op ∧ op ≤ 6)
def jumpB (op : Int) : Bool := decide (25 ≤ op ∧ op ≤ 27)
def bareB (op : Int) : Bool := decide (op = 13 ∨ (28 ≤ op ∧ op ≤ 30))
/-- All bytes of a kind within an area? -/
def thereB (pl k : Int) : Bool := decide (szI k ≠ 0 ∧ 0 ≤ pl ∧ pl + szI k ≤ 64)

/-- The seven ways in which an instruction may be. -/
inductive Way (i : In) : Prop
  | lit (h : readsB i.op = true) (ha : i.ar = 0) (hp : i.pl = 0) (hn : isI i.kd i.n = true)
  | get (h : readsB i.op = true) (h1 : 1 ≤ i.ar) (h4 : i.ar ≤ 4) (ht : thereB i.pl i.kd = true) (hn : i.n = 0)
  | put (h : writesB i.op = true) (h1 : 2 ≤ i.ar) (h4 : i.ar ≤ 4) (ht : thereB i.pl i.kd = true) (hn : i.n = 0)
  | jump (h : jumpB i.op = true) (hk : i.kd = 0) (ha : i.ar = 0) (h0 : 0 ≤ i.pl) (h1 : i.pl ≤ 200) (hn : i.n = 0)
  | bare (h : bareB i.op = true) (hk : i.kd = 0) (ha : i.ar = 0) (hp : i.pl = 0) (hn : i.n = 0)
  | close (h : i.op = 33) (hk : i.kd = 0) (ha : i.ar = 0) (hp : i.pl = 0) (hn : i.n = 0)
  | conv (h : i.op = 31) (hk : szI i.kd ≠ 0) (ha : i.ar = 0) (hp : i.pl = 0) (hn : i.n = 0)
  | opens (h : i.op = 32) (hk : i.kd = 0) (ha : i.ar = 0) (hr : readsB i.pl = true) (hp : 2 < i.pl) (hn : i.n = 0)
  | timer (h : i.op = 34 ∨ i.op = 35) (hk : i.kd = 0) (h3 : 3 ≤ i.ar) (h4 : i.ar ≤ 4) (h0 : 0 ≤ i.pl) (h1 : i.pl ≤ 59) (hn : 1 ≤ i.n) (hm : i.n ≤ 9999)
  | trig (h : i.op = 36) (hk : i.kd = 0) (h3 : 3 ≤ i.ar) (h4 : i.ar ≤ 4) (h0 : 0 ≤ i.pl) (h1 : i.pl ≤ 63) (hn : i.n = 0)
/-- May an instruction be? -/
def rightI (i : In) : Bool :=
  if readsB i.op && decide (i.ar = 0) then decide (i.pl = 0) && isI i.kd i.n
  else if readsB i.op || writesB i.op then decide (1 ≤ i.ar ∧ i.ar ≤ 4) && !(writesB i.op && decide (i.ar = 1)) && thereB i.pl i.kd && decide (i.n = 0)
  else if jumpB i.op then decide (i.kd = 0 ∧ i.ar = 0 ∧ 0 ≤ i.pl ∧ i.pl ≤ 200 ∧ i.n = 0)
  else if bareB i.op || decide (i.op = 33) then decide (i.kd = 0 ∧ i.ar = 0 ∧ i.pl = 0 ∧ i.n = 0)
  else if i.op = 31 then decide (szI i.kd ≠ 0 ∧ i.ar = 0 ∧ i.pl = 0 ∧ i.n = 0)
  else if i.op = 32 then decide (i.kd = 0 ∧ i.ar = 0 ∧ i.n = 0) && readsB i.pl && decide (2 < i.pl)
  else if i.op = 34 ∨ i.op = 35 then decide (i.kd = 0 ∧ 3 ≤ i.ar ∧ i.ar ≤ 4 ∧ 0 ≤ i.pl ∧ i.pl ≤ 59 ∧ 1 ≤ i.n ∧ i.n ≤ 9999)
  else if i.op = 36 then decide (i.kd = 0 ∧ 3 ≤ i.ar ∧ i.ar ≤ 4 ∧ 0 ≤ i.pl ∧ i.pl ≤ 63 ∧ i.n = 0)
  else false

theorem right_way {i : In} (h : rightI i = true) : Way i := by
  unfold rightI at h
  split at h
  · next h1 =>
    simp at h1 h
    exact .lit h1.1 h1.2 h.1 h.2
  split at h
  · next h0 h1 =>
    simp at h0 h1 h
    obtain ⟨⟨⟨⟨ha, hb⟩, hc⟩, hd⟩, he⟩ := h
    rcases h1 with h1 | h1
    · exact .get h1 ha hb hd he
    · exact .put h1 (by rcases hc with hc | hc; (rw [h1] at hc; cases hc); omega) hb hd he
  split at h
  · next h1 =>
    simp at h
    exact .jump h1 h.1 h.2.1 h.2.2.1 h.2.2.2.1 h.2.2.2.2
  split at h
  · next h1 =>
    simp at h1 h
    rcases h1 with h1 | h1
    · exact .bare h1 h.1 h.2.1 h.2.2.1 h.2.2.2
    · exact .close h1 h.1 h.2.1 h.2.2.1 h.2.2.2
  split at h
  · next h1 =>
    simp at h
    exact .conv h1 h.1 h.2.1 h.2.2.1 h.2.2.2
  split at h
  · next h1 =>
    simp at h
    exact .opens h1 h.1.1.1 h.1.1.2.1 h.1.2 h.2 h.1.1.2.2
  split at h
  · next h1 =>
    simp at h
    exact .timer h1 h.1 h.2.1 h.2.2.1 h.2.2.2.1 h.2.2.2.2.1 h.2.2.2.2.2.1 h.2.2.2.2.2.2
  split at h
  · next h1 =>
    simp at h
    exact .trig h1 h.1 h.2.1 h.2.2.1 h.2.2.2.1 h.2.2.2.2.1 h.2.2.2.2.2
  · cases h

/-! ### Words -/
def namesL : List Bs := [[], [76, 68], [76, 68, 78], [83, 84], [83, 84, 78], [83], [82], [65, 78, 68], [79, 82], [88, 79, 82], [65, 78, 68, 78], [79, 82, 78], [88, 79, 82, 78], [78, 79, 84], [65, 68, 68], [83, 85, 66], [77, 85, 76], [68, 73, 86], [77, 79, 68],
  [71, 84], [71, 69], [69, 81], [78, 69], [76, 69], [76, 84], [74, 77, 80], [74, 77, 80, 67], [74, 77, 80, 67, 78], [82, 69, 84], [82, 69, 84, 67], [82, 69, 84, 67, 78], [67, 79, 78, 86], [], [], [84, 79, 78], [67, 84, 85], [84, 82, 73, 71]]
/-- An operation's name. -/
def opName (op : Int) : Bs := namesL.getD op.toNat []
/-- The operation of a name; 0: none. -/
def opOf (s : Bs) : Nat := if s = [] then 0 else ((List.range 37).find? fun k => decide (namesL.getD k [] = s)).getD 0
def nmI (k : Int) : Bs := (nameI k).data.toList
/-- The kind of a name; 0: none. -/
def kindOf (s : Bs) : Int := namedI ⟨s.toArray⟩
def letA (ar : Int) : UInt8 := if ar = 1 then 73 else if ar = 2 then 81 else if ar = 3 then 77 else if ar = 4 then 82 else 63
def areaL (ar pl : Int) : Bs := 37 :: letA ar :: Lib.decDigits pl.toNat
/-- What an operation asks for, as a word. -/
def argL (i : In) : Bs :=
  if jumpB i.op then 76 :: Lib.decDigits i.pl.toNat
  else if i.op = 31 then nmI i.kd
  else if i.op = 34 ∨ i.op = 35 then areaL i.ar i.pl ++ 44 :: Lib.itoa i.n
  else if i.op = 36 then areaL i.ar i.pl
  else if i.ar = 0 then nmI i.kd ++ 35 :: Lib.itoa i.n
  else areaL i.ar i.pl ++ 58 :: nmI i.kd
def spellW (i : In) : List Bs :=
  if i.op = 33 then [[41]] else if i.op = 32 then [opName i.pl ++ [40]] else if bareB i.op then [opName i.op] else [opName i.op, argL i]
def joinW : List Bs → Bs
  | [] => []
  | [a] => a
  | a :: l => a ++ 32 :: joinW l
/-- An instruction's words, with a blank between. -/
def spellL (i : In) : Bs := if rightI i then joinW (spellW i) else []

/-! ### Lines -/
def splitB (c : UInt8) : Bs → List Bs
  | [] => [[]]
  | x :: xs => if x = c then [] :: splitB c xs else match splitB c xs with
    | [] => [[x]]
    | h :: t => (x :: h) :: t
def cutB (c : UInt8) (s : Bs) : Bs := s.takeWhile (fun x => decide (x ≠ c))
/-- A line's words, without its remark. -/
def wordsB (s : Bs) : List Bs := (splitB 32 (cutB 59 s)).filter (fun x => decide (x ≠ []))
def letterB (c : UInt8) : Bool := decide ((97 ≤ c ∧ c ≤ 122) ∨ (65 ≤ c ∧ c ≤ 90))
def digitB (c : UInt8) : Bool := decide (48 ≤ c ∧ c ≤ 57)
/-- Is a text a name? -/
def nameB : Bs → Bool
  | [] => false
  | c :: s => letterB c && s.all (fun x => letterB x || digitB x || decide (x = 95)) && decide (s.length < 16)
def valB (s : Bs) : Nat := s.foldl (fun n c => 10 * n + (c.toNat - 48)) 0
/-- A number of up to so many digits. -/
def numB (most : Nat) (s : Bs) : Option Nat := if s ≠ [] ∧ s.length ≤ most ∧ s.all digitB = true then some (valB s) else none
/-- A number of a place. -/
def smallB (s : Bs) : Option Nat := if s.length = 2 ∧ s.head? = some 48 then none else numB 2 s
def areaOf (c : UInt8) : Option Int := if c = 73 then some 1 else if c = 81 then some 2 else if c = 77 then some 3 else if c = 82 then some 4 else none
/-- A place without its kind. -/
def spotB : Bs → Option (Int × Int)
  | c :: a :: s => if c = 37 then (areaOf a).bind fun ar => (smallB s).map fun p : Nat => (ar, (p : Int)) else none
  | _ => none
/-- A place. -/
def placeB (s : Bs) : Option In :=
  match splitB 58 s with
  | [p, k] => (spotB p).bind fun q => if kindOf k = 0 then none else some ⟨0, kindOf k, q.1, q.2, 0⟩
  | _ => none
def signB (s : Bs) : Option Int :=
  match s with
  | [] => none
  | c :: t => if c = 45 then (numB 10 t).map fun n : Nat => -(n : Int) else (numB 10 (c :: t)).map fun n : Nat => (n : Int)
def litB (s : Bs) : Option In :=
  match splitB 35 s with
  | [k, t] => (signB t).bind fun n => if kindOf k = 0 then none else some ⟨0, kindOf k, 0, 0, n⟩
  | _ => none

/-! ### What is assembled -/
/-- What was read so far: instructions, each with the label that it wants and its line; places; labels. -/
structure Asm where
  code : List (In × Bs × Nat)
  places : List (Bs × In)
  labels : List (Bs × Nat)
def look {β : Type} (l : List (Bs × β)) (s : Bs) : Option β := (l.find? fun p => decide (p.1 = s)).map (·.2)

def operandB (places : List (Bs × In)) (s : Bs) (also : Bool) : Except Nat In :=
  match placeB s with
  | some i => .ok i
  | none => match (if also then litB s else none) with
    | some i => .ok i
    | none => if nameB s then (match look places s with | some i => .ok i | none => .error 5) else .error 4
/-- The instruction of a word and what it asks for. -/
def askB (places : List (Bs × In)) (op : Int) (s : Bs) : Except Nat (In × Bs) :=
  if readsB op || writesB op then (match operandB places s (readsB op) with | .ok i => .ok (⟨op, i.kd, i.ar, i.pl, i.n⟩, []) | .error e => .error e)
  else if jumpB op then (if nameB s then .ok (⟨op, 0, 0, 0, 0⟩, s) else .error 4)
  else if op = 31 then .ok (⟨op, kindOf s, 0, 0, 0⟩, [])
  else if op = 36 then (match spotB s with | some q => .ok (⟨op, 0, q.1, q.2, 0⟩, []) | none => .error 4)
  else match splitB 44 s with
    | [p, t] => (match spotB p, numB 4 t with | some q, some n => .ok (⟨op, 0, q.1, q.2, (n : Int)⟩, []) | _, _ => .error 4)
    | _ => .error 4
def instrB (places : List (Bs × In)) (ws : List Bs) : Except Nat (In × Bs) :=
  match ws with
  | [] => .error 4
  | [a] =>
    if a = [41] then .ok (⟨33, 0, 0, 0, 0⟩, [])
    else if a.getLast? = some 40 ∧ 1 < a.length then .ok (⟨32, 0, 0, (opOf a.dropLast : Int), 0⟩, [])
    else if bareB (opOf a) then .ok (⟨(opOf a : Int), 0, 0, 0, 0⟩, []) else .error 4
  | [a, b] => if opOf a = 0 ∨ bareB (opOf a) = true then .error 4 else askB places (opOf a) b
  | _ => .error 4
/-- An instruction is put behind the others. -/
def addB (st : Asm) (ws : List Bs) (ln : Nat) : Except Nat Asm :=
  match instrB st.places ws with
  | .error e => .error e
  | .ok (i, lab) => if rightI i = false then .error 4 else if 200 ≤ st.code.length then .error 2 else .ok ⟨st.code ++ [(i, lab, ln)], st.places, st.labels⟩
/-- One line. -/
def lineB (st : Asm) (ws : List Bs) (ln : Nat) : Except Nat Asm :=
  match ws with
  | [] => .ok st
  | a :: rest =>
    if a = [86, 65, 82] then
      (match rest with
      | [nm, t, p] =>
        if nameB nm = true ∧ t = [65, 84] then
          (match placeB p with
          | some i => if thereB i.pl i.kd = true then (match look st.places nm with | some _ => .error 5 | none => .ok ⟨st.code, st.places ++ [(nm, i)], st.labels⟩) else .error 4
          | none => .error 4)
        else .error 4
      | _ => .error 4)
    else if a.getLast? = some 58 then
      (if nameB a.dropLast = true then
        (match look st.labels a.dropLast with
        | some _ => .error 5
        | none => if rest = [] then .ok ⟨st.code, st.places, st.labels ++ [(a.dropLast, st.code.length)]⟩ else addB ⟨st.code, st.places, st.labels ++ [(a.dropLast, st.code.length)]⟩ rest ln)
      else .error 4)
    else addB st ws ln
def linesB : Asm → List (Nat × List Bs) → Except (Nat × Nat) Asm
  | st, [] => .ok st
  | st, (ln, ws) :: r => match lineB st ws ln with
    | .error e => .error (e, ln)
    | .ok st' => linesB st' r
def jumpsB (labels : List (Bs × Nat)) : List (In × Bs × Nat) → Except (Nat × Nat) (List In)
  | [] => .ok []
  | (i, lab, ln) :: r =>
    if lab = [] then (match jumpsB labels r with | .ok l => .ok (i :: l) | .error e => .error e)
    else match look labels lab with
      | none => .error (5, ln)
      | some k => (match jumpsB labels r with | .ok l => .ok (⟨i.op, i.kd, i.ar, (k : Int), i.n⟩ :: l) | .error e => .error e)
def asmL (ls : List (Nat × List Bs)) : Except (Nat × Nat) (List In) :=
  match linesB ⟨[], [], []⟩ ls with
  | .error e => .error e
  | .ok st => jumpsB st.labels st.code
/-- Lines with their numbers. -/
def numbered : Nat → List Bs → List (Nat × List Bs)
  | _, [] => []
  | k, l :: r => (k, wordsB l) :: numbered (k + 1) r
/-- What a text is assembled to: instructions, or an error and its line. -/
def asmB (text : Bs) : Except (Nat × Nat) (List In) := if 4000 < text.length then .error (2, 0) else asmL (numbered 1 (splitB 10 text))

/-! ### What is printed -/
def ledB (code : List In) : List Nat := (code.filter fun i => jumpB i.op).map fun i => i.pl.toNat
def labelL (k : Nat) : Bs := 76 :: Lib.decDigits k
def printFrom (led : List Nat) : Nat → List In → Bs
  | k, [] => if k ∈ led then labelL k ++ [58, 10] else []
  | k, i :: r => (if k ∈ led then labelL k ++ [58, 10] else []) ++ spellL i ++ 10 :: printFrom led (k + 1) r
def printsB (code : List In) : Bool := code.all (fun i => rightI i && (!(jumpB i.op) || decide (i.pl ≤ code.length)))
def printL (code : List In) : Bs := printFrom (ledB code) 0 code

end Go.Proofs.Ytbejajnhgoejhaa.Il
