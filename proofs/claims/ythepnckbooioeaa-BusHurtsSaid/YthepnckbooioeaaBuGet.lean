/-
  The reference's bus: Deliver, walked. Conditions: none.
-/
import Derived.Test.YthepnckbooioeaaBuSend
namespace Go.Proofs.Ythepnckbooioeaa.Bus
open Go.RowKit

theorem Done.trail {F : Face} {w w1 w2 : World} {p : Nat} {ms ns : List Nat} {x : Bs} (h1 : OnlyL ms w w1) (a : F.At w2 p ns x) (h2 : OnlyL ms w1 w2) (h3 : ∀ j ∈ ns, j ∈ ms ∨ w1.heap.size ≤ j) (v : Value) : Done F p ms v x w (.returned v) w2 :=
  ⟨rfl, ns, a, h1.trans h2 (fun _ hj => .inl hj), fun j hj => (h3 j hj).imp id (fun hle => Nat.le_trans h1.size hle)⟩

def gotP (p : Pc) (to : Int) : Pc := ⟨p.b, p.src, Mem.woB p.to to, p.hurt⟩
def gotX (x : Bs) (k : Nat) (to : Int) : Bs := if (gotP (pieceOf x k) to).to = 0#32 then lessX (putX x k (gotP (pieceOf x k) to)) k else putX x k (gotP (pieceOf x k) to)
def delB (x : Bs) (k to : Int) : Bool := thereB x k && Mem.hasB (pieceOf x k.toNat).to to
def delX (x : Bs) (k to : Int) : Bs := if delB x k to then gotX x k.toNat to else x
def delS (x : Bs) (k to : Int) : ByteArray := if delB x k to then (pieceOf x k.toNat).b else ⟨#[]⟩
def delE (x : Bs) (k to : Int) : Int := if delB x k to then 0 else 1

/-- What the region that stores the addresses stands on. -/
def Here (w W : World) (b g c m n : Nat) (ms : List Nat) (x : Bs) (p : Pc) : Prop :=
  RefAt W b ms x ∧ OnlyL ms w W ∧ W.cell? ⟨b, 0, none⟩ = some (.slice (some ⟨g, 0, none⟩) n c) ∧ W.cell? ⟨g, m * 4 + 2, none⟩ = some (.int .u32 (p.to.toNat : Int)) ∧ W.frozen? ⟨g, m * 4 + 2, none⟩ = false
theorem Here.next {w W W' : World} {b g c m n : Nat} {ms : List Nat} {x : Bs} {p : Pc} (h : Here w W b g c m n ms x p) (hb : Below W.heap.size W W') : Here w W' b g c m n ms x p := by
  obtain ⟨h1, h2, h3, h4, h5⟩ := h
  have kb := hb.block b (World.block_lt_of_cell? W ⟨b, 0, none⟩ h3)
  have kg := hb.block g (World.block_lt_of_cell? W ⟨g, m * 4 + 2, none⟩ h4)
  exact ⟨Face.below (F := refFace) h1 hb, h2.trans (OnlyL.of_below (ms := []) hb) (fun j hj => by cases hj), (World.cell?_of_block (a := ⟨b, 0, none⟩) kb).trans h3, (World.cell?_of_block (a := ⟨g, m * 4 + 2, none⟩) kg).trans h4, (World.frozen?_of_block (a := ⟨g, m * 4 + 2, none⟩) kg).trans h5⟩
theorem Here.drew {w W : World} {b g c m n : Nat} {ms : List Nat} {x : Bs} {p : Pc} (h : Here w W b g c m n ms x p) : Here w W.drew b g c m n ms x p := h.next (Below.refl _ _).drew

set_option maxRecDepth 100000 in
set_option maxHeartbeats 8000000 in
theorem rDeliver_any (b : Nat) (ms : List Nat) (x : Bs) (k to : Int) (w : World) (hx : RefAt w b ms x) :
    Calls Try.prog 24 #[.pointer (some ⟨b, 0, none⟩), .int .i64 k, .int .i64 to] w (Done refFace b ms (.tuple #[.string (delS x k to), .int .i64 (delE x k to)]) (delX x k to) w) := by
  have HT := Lib.hid (rThere_any b ms x k w hx)
  unfold delS delE delX
  by_cases ht : thereB x k = true
  · obtain ⟨m, rfl, hm⟩ := there_nat ht
    have hmi : (m : Int) < (x.l.length : Int) := by omega
    obtain ⟨g, c, c0, hgm, hgb, hf, q0, q1, q2, q3⟩ := hx.piece m hm
    have hsm := (refFace.ok hx).small _ (List.getElem_mem hm)
    have hpc : pieceOf x m = x.l[m] := getD_lt _ _ hm
    have HR := HT.out
    rw [ht] at HR
    replace HR := Lib.hid HR
    simp only [delB, ht, Bool.true_and, Int.toNat_natCast, gotX]
    rw [hpc]
    have HX := Lib.hid hx
    have HH := Lib.hid (show Here w w b g c m x.l.length ms x x.l[m] from ⟨hx, OnlyL.refl _ _, c0, q2, hf _⟩)
    clear hx HT hpc hf
    have HG := Lib.hid hgm
    have HGB := Lib.hid hgb
    have HL := Lib.hid hm
    have HPut := Lib.hid (fun (W : World) (hW : Here w W b g c m x.l.length ms x x.l[m]) => hW.1.put hW.2.2.1 m hm 2 (by decide) (gotP x.l[m] to) (.int .u32 ((gotP x.l[m] to).to.toNat : Int)) rfl hsm)
    clear hgm hgb
    have HW := Lib.hid (fun (W : World) => show Calls Try.prog 38 #[.int .u32 (x.l[m].to.toNat : Int), .int .i64 to] W fun e w' => e = .returned (.int .u32 ((gotP x.l[m] to).to.toNat : Int)) ∧ Below W.heap.size W w' from Mem.rWithout_any x.l[m].to to W)
    have HHas := Lib.hid (fun (W : World) => show Calls Try.prog 40 #[.int .u32 (x.l[m].to.toNat : Int), .int .i64 to] W fun e w' => e = .returned (.bool (Mem.hasB x.l[m].to to)) ∧ W = w' from Mem.rHas_any x.l[m].to to W)
    have HT0 := Lib.hid (show (gotP x.l[m] to).to = Mem.woB x.l[m].to to from rfl)
    have HB0 := Lib.hid (show (gotP x.l[m] to).b = x.l[m].b from rfl)
    generalize gotP x.l[m] to = z at *
    generalize x.l[m] = p at *
    by_cases hh : Mem.hasB p.to to = true
    · simp only [hh, if_true]
      have c0k := HH.out.2.2.1
      have hg1 : ¬ g = b := HGB.out
      have hg2 : ¬ b = g := fun e => HGB.out e.symm
      by_cases hz : z.to = 0#32
      · rw [if_pos hz]
        have hz2 : (z.to.toNat : Int) = 0 := by rw [hz]; rfl
        go_enter Try.func24, Try.ntmps24
        go_wp2_with fail
        refine HR.out.mono ?_
        rintro e w1 ⟨rfl, rfl⟩
        go_wp2_with fail
        rw [hh] at HHas
        refine (HHas.out w).mono ?_
        rintro e w1 ⟨rfl, rfl⟩
        go_wp2_with fail
        go_region_law (first | (go_simp; go_at_call 38; refine (HW.out _).mono ?_; rintro e w1 ⟨rfl, hb1⟩; have hH := Lib.hid (HH.out.drew.next hb1); clear hb1; have y0 := hH.out.2.2.1; have y1 := hH.out.2.2.2.1; have y2 := hH.out.2.2.2.2))
        all_goals
          have HS := Lib.hid (HPut.out _ hH.out)
          have HQ := Lib.hid (hH.out.2.1.trans (OnlyL.set (ms := ms) (b := g) HG.out (m * 4 + 2) (.int .u32 (z.to.toNat : Int))) (fun j hj => .inl hj))
          rw [hz2] at HS HQ
          go_wp2_with fail
          refine (rwithout_any b ms _ m _ HS.out (by show m < (putX x m z).l.length; unfold putX; rw [List.length_set]; exact HL.out)).mono ?_
          rintro e w3 ⟨rfl, ns, r1, r2, r3⟩
          have HD := Lib.hid (Done.trail (F := refFace) HQ.out r1 r2 r3 (.tuple #[.string p.b, .int .i64 0]))
          clear r1 r2 r3 y0 y1 y2 hH
          go_wp2
          refine bodyPost_ret (v := .tuple #[.string p.b, .int .i64 0]) (by simp [results, Try.results24, go_sem]) rfl ?_
          exact HD.out
      · rw [if_neg hz]
        have hz2 : ¬ (z.to.toNat : Int) = 0 := by
          intro e
          exact hz (BitVec.eq_of_toNat_eq (by rw [show (0#32).toNat = 0 from rfl]; omega))
        go_enter Try.func24, Try.ntmps24
        go_wp2_with fail
        refine HR.out.mono ?_
        rintro e w1 ⟨rfl, rfl⟩
        go_wp2_with fail
        rw [hh] at HHas
        refine (HHas.out w).mono ?_
        rintro e w1 ⟨rfl, rfl⟩
        go_wp2_with fail
        go_region_law (first | (go_simp; go_at_call 38; refine (HW.out _).mono ?_; rintro e w1 ⟨rfl, hb1⟩; have hH := Lib.hid (HH.out.drew.next hb1); clear hb1; have y0 := hH.out.2.2.1; have y1 := hH.out.2.2.2.1; have y2 := hH.out.2.2.2.2))
        all_goals
          have HS := Lib.hid (HPut.out _ hH.out)
          have HQ := Lib.hid (hH.out.2.1.trans (OnlyL.set (ms := ms) (b := g) HG.out (m * 4 + 2) (.int .u32 (z.to.toNat : Int))) (fun j hj => .inl hj))
          go_wp2
          refine bodyPost_ret (v := .tuple #[.string p.b, .int .i64 0]) (by simp [results, Try.results24, go_sem]) rfl ?_
          exact ⟨rfl, ms, HS.out, HQ.out, fun j hj => .inl hj⟩
    · replace hh : Mem.hasB p.to to = false := by simpa using hh
      rw [hh] at HHas
      simp only [hh, if_false, Bool.false_eq_true]
      go_enter Try.func24, Try.ntmps24
      go_wp2_with fail
      refine HR.out.mono ?_
      rintro e w1 ⟨rfl, rfl⟩
      go_wp2_with fail
      refine (HHas.out w).mono ?_
      rintro e w1 ⟨rfl, rfl⟩
      go_wp2
      refine bodyPost_ret (v := .tuple #[.string ⟨#[]⟩, .int .i64 1]) (by simp [results, Try.results24, go_sem]) rfl ?_
      exact Done.same (F := refFace) HX.out (Below.refl _ _)
  · replace ht : thereB x k = false := by simpa using ht
    simp only [delB, ht, Bool.false_and, if_false, Bool.false_eq_true]
    have HR := HT.out
    rw [ht] at HR
    replace HR := Lib.hid HR
    have HX := Lib.hid hx
    clear hx HT
    go_enter Try.func24, Try.ntmps24
    go_wp2_with fail
    refine HR.out.mono ?_
    rintro e w1 ⟨rfl, rfl⟩
    go_wp2
    refine bodyPost_ret (v := .tuple #[.string ⟨#[]⟩, .int .i64 1]) (by simp [results, Try.results24, go_sem]) rfl ?_
    exact Done.same (F := refFace) HX.out (Below.refl _ _)

end Go.Proofs.Ythepnckbooioeaa.Bus
