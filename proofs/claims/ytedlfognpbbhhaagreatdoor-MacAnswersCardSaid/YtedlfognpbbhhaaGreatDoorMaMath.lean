/-
  A mac, and what its calls make of it. Conditions: none.
-/
import Derived.Test.YtedlfognpbbhhaaGreatDoorEpMint
import Derived.Test.YtedlfognpbbhhaaGreatDoorMemTurn
import Derived.Test.YtedlfognpbbhhaaGreatDoorFrRight
namespace Go.Proofs.YtedlfognpbbhhaaGreatDoor.Ma
open Go.Proofs.YtedlfognpbbhhaaGreatDoor.Epo (Ep cmpE newB maxE numE numM)
open Go.Proofs.YtedlfognpbbhhaaGreatDoor.Mem (St withB woB hasB passB nextI turnI gapB)
open Go.Proofs.YtedlfognpbbhhaaGreatDoor.Frm (Fr)

structure Mk where
  e : Ep
  h : Nat
/-- A mac's numbers. -/
structure Mc where
  ad : Nat
  inc : Nat
  sl : Int
  tt : Int
  gp : Int
  rt : Int
  lm : Int
  tp : Int
  st : Int
  wants : Bool
  leaving : Bool
  fault : Bool
  clock : Int
  silence : Int
  timer : Int
  visits : Int
  arrived : Int
  rot : Int
  list : St
  kn : Nat → Nat
  high : Ep
  tok : Mk
  mark : Mk
  heard : Mk
  partner : Int
  pinc : Nat
  tries : Int
  answered : Bool
  last : Int
  ask : Int
  poll : Fr
  polled : Bool

def noF : Fr := ⟨0, 0, 0, 0, 0, 0, 0, 0, 0, 0, 0, 0, false, 0, 0, 0, 0, 0, ⟨#[]⟩⟩
def toF (M : Mc) (kind : Int) (ad inc : Nat) : Fr := ⟨kind, M.ad, ad, M.inc, inc, M.tok.e.c, M.tok.e.a, M.tok.e.i, M.tok.h, 0, 0, 0, false, 0, 0, 0, 0, 0, ⟨#[]⟩⟩
def plF (M : Mc) (kind : Int) : Fr := toF M kind 0 0
def statF (M : Mc) : Fr := ⟨3, M.ad, M.poll.src, M.inc, M.poll.sinc, M.poll.ec, M.poll.ea, M.poll.ei, M.poll.hop, M.high.c, M.high.a, M.high.i, M.wants, 0, 0, 0, 0, 0, ⟨#[]⟩⟩
def passF (M : Mc) : Fr := toF M (if M.leaving = true then 5 else 1) M.partner.toNat M.pinc

def holdsB (s : Int) : Bool := s == 4 || s == 5 || s == 6 || s == 7 || s == 9
def arriveM (M : Mc) : Mc := { M with rot := if 0 < M.visits then M.clock - M.arrived else M.rot, arrived := M.clock, visits := M.visits + 1, st := 4 }
def mintB (M : Mc) : Bool := decide (¬ M.lm ≤ (M.high.c : Int)) && decide (¬ (65535 : Int) ≤ (M.high.c : Int))
def freshE (M : Mc) : Ep := ⟨M.high.c + 1, M.ad, M.inc⟩
def offM (M : Mc) : Mc := { M with st := 0, fault := true }
def newM (M : Mc) : Mc := { M with high := freshE M, tok := ⟨freshE M, 0⟩ }
def mintM (M : Mc) : Mc := if mintB M = true then newM M else offM M
def hopB (M : Mc) : Bool := decide (M.tok.h ≠ 65535) || mintB M
def hopM (M : Mc) : Mc := if M.tok.h = 65535 then (if mintB M = true then { newM M with tok := ⟨freshE M, 1⟩ } else offM M) else { M with tok := ⟨M.tok.e, M.tok.h + 1⟩ }
def marksM (M : Mc) : Mc := { M with mark := M.tok, heard := M.tok }
def selfM (M : Mc) : Mc := arriveM (marksM M)
def toM (M : Mc) (n : Int) : Mc := { marksM M with st := 8, timer := 0, tries := 0, partner := n, pinc := M.kn n.toNat }

/-- What a mac is behind a step, what it sends, and of which class. -/
structure Out where
  m : Mc
  f : Fr
  k : Int
def nothing (M : Mc) : Out := ⟨M, noF, 0⟩
def selfR (M : Mc) : Out := ⟨selfM M, toF (selfM M) 1 M.ad M.inc, 1⟩
def toR (M : Mc) (n : Int) : Out := ⟨toM M n, passF (toM M n), 1⟩
def claimR (M : Mc) : Out := if mintB M = true then selfR { newM M with list := withB 0#32 M.ad } else nothing (offM M)
def goR (M : Mc) : Out :=
  if nextI M.list M.ad < 0 ∧ M.leaving = true then nothing { M with st := 1, leaving := false }
  else if hopB M = true then (if nextI M.list M.ad < 0 then selfR (hopM M) else toR (hopM M) (nextI M.list M.ad))
  else nothing (hopM M)
def passR (M : Mc) : Out :=
  if 0 < cmpE M.high M.tok.e then (if mintB M = true then goR (newM M) else nothing (offM M)) else goR M
def askR (M : Mc) (a s : Int) : Out := ⟨{ M with st := s, timer := 0, partner := a, answered := false }, toF M 2 a.toNat (M.kn a.toNat), 1⟩
def timeB (M : Mc) : Bool := decide (M.rot + M.clock - M.arrived < M.tt)
def gapM (M : Mc) : St := gapB M.list M.ad M.tp
def turnM (M : Mc) : Int := max (turnI (gapM M) M.last) 0
def gapR (M : Mc) : Out :=
  if M.visits % M.gp = 0 ∧ gapM M ≠ 0#32 then askR { M with last := turnM M } (turnM M) 9 else nothing M
def timR (M : Mc) (h l : Int) : Out :=
  if 0 < h then ⟨M, plF M 4, 2⟩ else if 0 < l then ⟨M, plF M 4, 3⟩ else if M.ask ≠ -1 then askR { M with ask := -1 } M.ask 5 else gapR M
def chkR (M : Mc) (h l : Int) : Out := if timeB M = true then timR { M with st := 6 } h l else gapR { M with st := 6 }
def chpR (M : Mc) (h l : Int) : Out := if (chkR M h l).k = 0 then passR (chkR M h l).m else chkR M h l
def leaveM (M : Mc) : Mc := { M with leaving := true, list := woB M.list M.ad }
def useR (M : Mc) (h l : Int) : Out :=
  if M.wants = true then (if 0 < h then ⟨{ M with st := 6 }, plF M 4, 2⟩ else chpR M h l) else passR (leaveM M)
def skipM (M : Mc) : Mc := { M with list := woB M.list M.partner }
def cpR (M : Mc) : Out :=
  if M.tries < M.rt then ⟨{ M with tries := M.tries + 1, timer := 0 }, passF M, 1⟩
  else if mintB M = true then passR (newM (skipM M)) else nothing (offM (skipM M))
def patM (M : Mc) : Int := M.sl * (4 + 2 * M.ad)
def waitB (M : Mc) : Bool :=
  if M.st = 1 ∨ M.st = 2 then !M.wants || decide (M.silence < patM M)
  else if M.st = 5 ∨ M.st = 9 then !M.answered && decide (M.timer < M.sl)
  else if M.st = 8 then decide (M.timer < M.sl) else false
def goOnR (M : Mc) (h l : Int) : Out :=
  if waitB M = true then nothing M
  else if M.st = 1 ∨ M.st = 2 then claimR M
  else if M.st = 4 then useR M h l
  else if M.st = 6 ∨ M.st = 5 then chpR M h l
  else if M.st = 9 then passR M
  else if M.st = 8 then cpR M
  else nothing M
def actR (M : Mc) (h l : Int) : Out := if M.polled = true then ⟨{ M with polled := false }, statF M, 1⟩ else goOnR M h l
def tickM (M : Mc) : Mc := { M with clock := M.clock + 1, silence := M.silence + 1, timer := M.timer + 1 }
def quiet (r : Out) : Out := if r.k = 0 then r else ⟨{ r.m with silence := 0 }, r.f, r.k⟩
def tickR (M : Mc) (h l : Int) : Out := if M.st = 0 then nothing M else quiet (actR (tickM M) h l)

/-! ### Hearing -/
def epF (f : Fr) : Ep := ⟨f.ec, f.ea, f.ei⟩
def hiF (f : Fr) : Ep := ⟨f.hc, f.ha, f.hi⟩
def mkF (f : Fr) : Mk := ⟨epF f, f.hop⟩
def upd (g : Nat → Nat) (a v : Nat) : Nat → Nat := fun i => if i = a then v else g i
def isToB (M : Mc) (f : Fr) : Bool := decide (f.dst = M.ad) && decide (f.dinc = M.inc)
noncomputable def mindsB (M : Mc) (f : Fr) : Bool := Frm.rtB f && (decide (f.src ≠ M.ad) && decide (M.kn f.src ≤ f.sinc))
def askedB (M : Mc) (f : Fr) : Bool := (M.st == 5 || M.st == 9) && (decide ((f.src : Int) = M.partner) && isToB M f)
def statusM (M : Mc) (f : Fr) : Mc := { M with high := maxE M.high (hiF f) }
def answerM (M : Mc) (f : Fr) : Mc :=
  if f.wants = true then (if M.st = 9 then { M with answered := true, list := withB M.list M.partner } else { M with answered := true })
  else { M with answered := true, list := woB M.list M.partner }
def hearSM (M : Mc) (f : Fr) : Mc := if askedB M f = true then answerM (statusM M f) f else statusM M f
def way1 (M : Mc) (k : Mk) : Mc :=
  if 0 < cmpE k.e M.high then (if holdsB M.st = true ∨ M.st = 8 then { M with high := k.e, st := 2, leaving := false } else { M with high := k.e }) else M
def way2 (M : Mc) (k : Mk) : Mc :=
  if M.st = 8 ∧ newB M.tok.e k.e M.tok.h k.h = false then (if M.leaving = true then { M with st := 1, leaving := false } else { M with st := 2 }) else M
def wayM (M : Mc) (k : Mk) : Mc := way2 (way1 M k) k
def listF (M : Mc) (f : Fr) : St := if f.kind = 5 then woB (passB M.list f.src f.dst) f.src else passB M.list f.src f.dst
def folM (M : Mc) (f : Fr) (k : Mk) : Mc := { M with heard := k, list := listF M f }
def takeM (M : Mc) (k : Mk) : Mc := arriveM { M with mark := k, tok := k, leaving := false }
def follM (M : Mc) (f : Fr) (k : Mk) : Mc :=
  if newB M.heard.e k.e M.heard.h k.h = true then M
  else if isToB M f = true ∧ newB k.e M.mark.e k.h M.mark.h = true then takeM (folM M f k) k
  else if M.st = 2 ∧ hasB (listF M f) M.ad = false then { folM M f k with st := 1 } else folM M f k
def pollM (M : Mc) (f : Fr) : Mc := if f.kind = 2 ∧ f.dst = M.ad then { M with poll := f, polled := true } else M
def mindM (M : Mc) (f : Fr) : Mc := { M with kn := upd M.kn f.src f.sinc, silence := 0 }
def restM (M : Mc) (f : Fr) : Mc :=
  if cmpE (epF f) M.high < 0 then M
  else if f.kind = 1 ∨ f.kind = 5 then follM (wayM M (mkF f)) f (mkF f) else wayM M (mkF f)
noncomputable def hearM (M : Mc) (f : Fr) : Mc :=
  if M.st = 0 then M else if mindsB M f = true then (if f.kind = 3 then hearSM (mindM M f) f else restM (pollM (mindM M f) f) f) else M
def askM (M : Mc) (a : Int) : Mc := if 0 ≤ a ∧ a < 32 ∧ a ≠ M.ad then { M with ask := a } else M
def wantM (M : Mc) (b : Bool) : Mc := { M with wants := b }
/-- A new one. -/
def mac0 (sl tt gp rt lm tp : Int) (ad inc : Nat) (wants : Bool) : Mc :=
  ⟨ad, inc, sl, tt, gp, rt, lm, tp, 1, wants, false, false, 0, 0, 0, 0, 0, 0, 0#32, fun _ => 0, ⟨0, 0, 0⟩, ⟨⟨0, 0, 0⟩, 0⟩, ⟨⟨0, 0, 0⟩, 0⟩, ⟨⟨0, 0, 0⟩, 0⟩, -1, 0, 0, false, ad, -1, noF, false⟩
end Go.Proofs.YtedlfognpbbhhaaGreatDoor.Ma
