/-
  What a mac tells of itself, and its small steps: walked. Conditions: as each states.
-/
import Derived.Test.YtedlfognpbbhhaaGreatDoorMaBase
namespace Go.Proofs.YtedlfognpbbhhaaGreatDoor.Ma
open Go.RowKit
open Go.Proofs.YtedlfognpbbhhaaGreatDoor.Epo (Ep cmpE newB maxE numE numM)
open Go.Proofs.YtedlfognpbbhhaaGreatDoor.Mem (St withB woB hasB passB nextI turnI gapB sv)
open Go.Proofs.YtedlfognpbbhhaaGreatDoor.Frm (Fr)

/-- A call on a mac: what it answers, what the mac is behind it. -/
def Does (w : World) (b : Nat) (v : Value) (M' : Mc) (e : Ending) (w' : World) : Prop := e = .returned v ∧ Mw w' b M' ∧ OnlyL [b] w w'
def Turns (w : World) (b : Nat) (M' : Mc) (e : Ending) (w' : World) : Prop := e = .returned (.tuple #[]) ∧ Mw w' b M' ∧ OnlyL [b] w w'

theorem results_3 {fn : Func} {p : Tmp} (h : fn.results = #[.cell p 33]) (tmps : Array Value) (w : World) (b : Nat) (x : Ep)
    (hp : tmps.getD p undef = .pointer (some ⟨b, 0, none⟩)) (h0 : w.cell? ⟨b, 0, none⟩ = some (.int .u16 x.c)) (h1 : w.cell? ⟨b, 1, none⟩ = some (.int .u8 x.a)) (h2 : w.cell? ⟨b, 2, none⟩ = some (.int .u16 x.i)) :
    (results fn tmps).run Tryz.prog w = .ok (.agg #[.int .u16 x.c, .int .u8 x.a, .int .u16 x.i]) w := by
  have hp' : tmps[p]?.getD undef = .pointer (some ⟨b, 0, none⟩) := by simpa using hp
  simp [results, h, hp', asAddr, go_sem, h0, h1, h2]
theorem results_4 {fn : Func} {p : Tmp} (h : fn.results = #[.cell p 43]) (tmps : Array Value) (w : World) (b : Nat) (x : Mk)
    (hp : tmps.getD p undef = .pointer (some ⟨b, 0, none⟩)) (h0 : w.cell? ⟨b, 0, none⟩ = some (.int .u16 x.e.c)) (h1 : w.cell? ⟨b, 1, none⟩ = some (.int .u8 x.e.a)) (h2 : w.cell? ⟨b, 2, none⟩ = some (.int .u16 x.e.i)) (h3 : w.cell? ⟨b, 3, none⟩ = some (.int .u16 x.h)) :
    (results fn tmps).run Tryz.prog w = .ok (.agg #[.int .u16 x.e.c, .int .u8 x.e.a, .int .u16 x.e.i, .int .u16 x.h]) w := by
  have hp' : tmps[p]?.getD undef = .pointer (some ⟨b, 0, none⟩) := by simpa using hp
  simp [results, h, hp', asAddr, go_sem, h0, h1, h2, h3]
def epV (x : Ep) : Value := .agg #[.int .u16 x.c, .int .u8 x.a, .int .u16 x.i]
def mkV (x : Mk) : Value := .agg #[.int .u16 x.e.c, .int .u8 x.e.a, .int .u16 x.e.i, .int .u16 x.h]

variable {b : Nat} {M : Mc} {w : World}
theorem cState (h : Mw w b M) : Calls Tryz.prog 21 #[.pointer (some ⟨b, 0, none⟩)] w (fun e w' => e = .returned (.int .i64 M.st) ∧ w = w') := by
  have c := h.cell 10 rfl
  clear h
  go_enter Tryz.func21, Tryz.ntmps21
  go_wp2
  go_ret
  exact ⟨rfl, rfl⟩
theorem cList (h : Mw w b M) : Calls Tryz.prog 24 #[.pointer (some ⟨b, 0, none⟩)] w (fun e w' => e = .returned (sv M.list) ∧ w = w') := by
  have c := h.cell 20 rfl
  clear h
  go_enter Tryz.func24, Tryz.ntmps24
  go_wp2
  go_ret
  exact ⟨rfl, rfl⟩
theorem cFault (h : Mw w b M) : Calls Tryz.prog 20 #[.pointer (some ⟨b, 0, none⟩)] w (fun e w' => e = .returned (.bool M.fault) ∧ w = w') := by
  have c := h.cell 13 rfl
  clear h
  go_enter Tryz.func20, Tryz.ntmps20
  go_wp2
  go_ret
  exact ⟨rfl, rfl⟩
set_option maxRecDepth 100000 in
theorem cVisits (h : Mw w b M) : Calls Tryz.prog 22 #[.pointer (some ⟨b, 0, none⟩)] w (fun e w' => e = .returned (.tuple #[.int .i64 M.visits, .int .i64 M.rot]) ∧ ∃ m, w' = w.drewN m) := by
  have c := h.cell 17 rfl
  have d := h.cell 19 rfl
  clear h
  go_enter Tryz.func22, Tryz.ntmps22
  go_wp2
  go_quiet (fail)
  go_wp2
  go_ret2
  exact ⟨rfl, _, rfl⟩
theorem holds_st (s : Int) : holdsB s = true ↔ s = 4 ∨ s = 5 ∨ s = 6 ∨ s = 7 ∨ s = 9 := by
  unfold holdsB
  simp [or_assoc]
theorem cHolds (h : Mw w b M) : Calls Tryz.prog 23 #[.pointer (some ⟨b, 0, none⟩)] w (fun e w' => e = .returned (.bool (holdsB M.st)) ∧ w = w') := by
  have HS := Lib.hid (cState h)
  have HV := Lib.hid (show holdsB M.st = (M.st == 4 || M.st == 5 || M.st == 6 || M.st == 7 || M.st == 9) from rfl)
  rw [HV.out]
  clear h
  generalize M.st = s at *
  clear HV
  cases h4 : (s == 4)
  · cases h5 : (s == 5)
    · cases h6 : (s == 6)
      · cases h7 : (s == 7)
        · cases h9 : (s == 9)
          · go_enter Tryz.func23, Tryz.ntmps23
            go_wp2_with fail
            refine HS.out.mono ?_
            rintro e w1 ⟨rfl, rfl⟩
            go_wp2
            go_ret
            exact ⟨rfl, rfl⟩
          · go_enter Tryz.func23, Tryz.ntmps23
            go_wp2_with fail
            refine HS.out.mono ?_
            rintro e w1 ⟨rfl, rfl⟩
            go_wp2
            go_ret
            exact ⟨rfl, rfl⟩
        · go_enter Tryz.func23, Tryz.ntmps23
          go_wp2_with fail
          refine HS.out.mono ?_
          rintro e w1 ⟨rfl, rfl⟩
          go_wp2
          go_ret
          exact ⟨rfl, rfl⟩
      · go_enter Tryz.func23, Tryz.ntmps23
        go_wp2_with fail
        refine HS.out.mono ?_
        rintro e w1 ⟨rfl, rfl⟩
        go_wp2
        go_ret
        exact ⟨rfl, rfl⟩
    · go_enter Tryz.func23, Tryz.ntmps23
      go_wp2_with fail
      refine HS.out.mono ?_
      rintro e w1 ⟨rfl, rfl⟩
      go_wp2
      go_ret
      exact ⟨rfl, rfl⟩
  · go_enter Tryz.func23, Tryz.ntmps23
    go_wp2_with fail
    refine HS.out.mono ?_
    rintro e w1 ⟨rfl, rfl⟩
    go_wp2
    go_ret
    exact ⟨rfl, rfl⟩
set_option maxRecDepth 100000 in
theorem cHigh (h : Mw w b M) : Calls Tryz.prog 13 #[.pointer (some ⟨b, 0, none⟩)] w (Tells (epV M.high) w) := by
  have c0 := h.cell 53 rfl
  have c1 := h.cell 54 rfl
  have c2 := h.cell 55 rfl
  have hlt := h.lt
  have HB := Lib.hid (one_S w #[.int .u16 M.high.c, .int .u8 M.high.a, .int .u16 M.high.i] 33)
  clear h
  unfold epV
  go_enter Tryz.func13, Tryz.ntmps13
  go_wp2
  refine bodyPost_ret (results_3 Tryz.results13 _ _ w.heap.size M.high rfl ?_ ?_ ?_) rfl ⟨rfl, HB.out⟩
  all_goals simp [go_sem]
set_option maxRecDepth 100000 in
theorem cToken (h : Mw w b M) : Calls Tryz.prog 12 #[.pointer (some ⟨b, 0, none⟩)] w (Tells (mkV M.tok) w) := by
  have c0 := h.cell 56 rfl
  have c1 := h.cell 57 rfl
  have c2 := h.cell 58 rfl
  have c3 := h.cell 59 rfl
  have hlt := h.lt
  have HB := Lib.hid (one_S w #[.int .u16 M.tok.e.c, .int .u8 M.tok.e.a, .int .u16 M.tok.e.i, .int .u16 M.tok.h] 43)
  clear h
  unfold mkV
  go_enter Tryz.func12, Tryz.ntmps12
  go_wp2
  refine bodyPost_ret (results_4 Tryz.results12 _ _ w.heap.size M.tok rfl ?_ ?_ ?_ ?_) rfl ⟨rfl, HB.out⟩
  all_goals simp [go_sem]
set_option maxRecDepth 100000 in
theorem cWant (h : Mw w b M) (x : Bool) : Calls Tryz.prog 16 #[.pointer (some ⟨b, 0, none⟩), .bool x] w (Turns w b (wantM M x)) := by
  have c := h.cell 11 rfl
  have f := h.free 11
  have HE := Lib.hid (show Mw (w.setCell ⟨b, 11, none⟩ (.bool x)) b (wantM M x) from h.sets [(11, .bool x)] rfl)
  clear h
  go_enter Tryz.func16, Tryz.ntmps16
  go_wp2
  go_end0
  exact ⟨rfl, HE.out, OnlyL.set (by simp) _ _⟩
set_option maxRecDepth 100000 in
theorem cAsk (h : Mw w b M) (a : Int) : Calls Tryz.prog 17 #[.pointer (some ⟨b, 0, none⟩), .int .i64 a] w (fun e w' => ∃ x, e = .returned (.bool x) ∧ Mw w' b (askM M a) ∧ OnlyL [b] w w') := by
  have c := h.cell 0 rfl
  have d := h.cell 73 rfl
  have f := h.free 73
  by_cases h1 : a < 0
  · have e1 : decide (a < 0) = true := decide_eq_true h1
    have HE := Lib.hid (show Mw w b (askM M a) by unfold askM; rw [if_neg (by omega)]; exact h)
    clear h h1
    go_enter Tryz.func17, Tryz.ntmps17
    go_wp2
    go_ret
    exact ⟨_, rfl, HE.out, OnlyL.refl _ _⟩
  have e1 : decide (a < 0) = false := decide_eq_false h1
  by_cases h2 : 32 ≤ a
  · have e2 : decide (32 ≤ a) = true := decide_eq_true h2
    have HE := Lib.hid (show Mw w b (askM M a) by unfold askM; rw [if_neg (by omega)]; exact h)
    clear h h1 h2
    go_enter Tryz.func17, Tryz.ntmps17
    go_wp2
    go_ret
    exact ⟨_, rfl, HE.out, OnlyL.refl _ _⟩
  have e2 : decide (32 ≤ a) = false := decide_eq_false h2
  by_cases h3 : a = (M.ad : Int)
  · have e3 : (a == (M.ad : Int)) = true := by simpa using h3
    have HE := Lib.hid (show Mw w b (askM M a) by unfold askM; rw [if_neg (by omega)]; exact h)
    clear h h1 h2 h3
    go_enter Tryz.func17, Tryz.ntmps17
    go_wp2
    go_ret
    exact ⟨_, rfl, HE.out, OnlyL.refl _ _⟩
  have e3 : (a == (M.ad : Int)) = false := by simpa using h3
  have HE := Lib.hid (show Mw (w.setCell ⟨b, 73, none⟩ (.int .i64 a)) b (askM M a) by unfold askM; rw [if_pos (by omega)]; exact h.sets [(73, .int .i64 a)] rfl)
  clear h h1 h2 h3
  go_enter Tryz.func17, Tryz.ntmps17
  go_wp2
  go_ret
  exact ⟨_, rfl, HE.out, OnlyL.set (by simp) _ _⟩
end Go.Proofs.YtedlfognpbbhhaaGreatDoor.Ma
