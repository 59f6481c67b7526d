/-
  The landed bus: Deliver, Burst, Cut, walked; all of its calls. Conditions: none.
-/
import Derived.Test.YthepnckbooioeaaBcSend
namespace Go.Proofs.Ythepnckbooioeaa.Bus
open Go.RowKit

theorem shown_b (x : Bs) (k to : Int) (h : delB x k to = true) : (shownP x k).b = delS x k to := by
  unfold delS shownP
  rw [if_pos h]
  unfold delB at h
  simp only [Bool.and_eq_true] at h
  rw [if_pos h.1]

set_option maxRecDepth 100000 in
set_option maxHeartbeats 4000000 in
theorem cDeliver_any (b : Nat) (ms : List Nat) (x : Bs) (k to : Int) (w : World) (hx : RefAt w b ms x) :
    Calls Try.prog 21 #[.pointer (some ⟨b, 0, none⟩), .int .i64 k, .int .i64 to] w (Done refFace b ms (.tuple #[.string (delS x k to), .int .i64 (delE x k to)]) (delX x k to) w) := by
  have HP := Lib.hid (cPiece_any b ms x k w hx)
  have HL := Lib.hid (fun (W : World) (hb : Below w.heap.size w W) => show (Calls Try.prog 22 #[.pointer (some ⟨b, 0, none⟩), .int .i64 k, .int .i64 to] W (Done refFace b ms (.int .i64 (delE x k to)) (delX x k to) W)) from cLose_any b ms x k to W (Face.below (F := refFace) hx hb))
  have HM := Lib.hid (fun j (hj : j ∈ ms) => refFace.lt hx j hj)
  have HS := Lib.hid (shown_b x k to)
  clear hx
  unfold Pc.val at HP
  generalize shownP x k = p at *
  generalize hX : delX x k to = y at *
  generalize hT : thereB x k = t at *
  generalize hS : delS x k to = s at *
  by_cases hd : delB x k to = true
  · have e0 : delE x k to = 0 := by unfold delE; rw [if_pos hd]
    have e1 := HS.out hd
    subst e1
    rw [e0] at HL ⊢
    clear HS hd e0
    go_enter Try.func21, Try.ntmps21
    go_wp2_with fail
    refine HP.out.mono ?_
    rintro e w1 ⟨rfl, hb1⟩
    have HB := Lib.hid (hb1.alloc hb1.size (.cells #[.string p.b, .int .i64 p.src, .int .u32 (p.to.toNat : Int), .bool p.hurt] 43))
    have HN := Lib.hid hb1.size
    clear hb1
    go_wp2_with fail
    refine (HL.out _ HB.out).mono ?_
    rintro e w3 ⟨rfl, ns, r1, r2, r3⟩
    have c0 : w3.cell? ⟨w1.heap.size, 0, none⟩ = some (.string p.b) := onlyL_cell r2 (BoxP.new w1 p 43).1 (fun hin => by have := HM.out _ hin; have := HN.out; omega)
    have HD := Lib.hid (Done.trail (F := refFace) (OnlyL.of_below (ms := ms) HB.out) r1 r2 r3 (.tuple #[.string p.b, .int .i64 0]))
    clear r1 r2 r3
    go_wp2
    refine bodyPost_ret (v := .tuple #[.string p.b, .int .i64 0]) (by simp [results, Try.results21, go_sem]) rfl ?_
    exact HD.out
  · replace hd : delB x k to = false := by simpa using hd
    have e0 : delE x k to = 1 := by unfold delE; rw [if_neg (by simp [hd])]
    have e1 : s = ⟨#[]⟩ := by rw [← hS]; unfold delS; rw [if_neg (by simp [hd])]
    subst e1
    rw [e0] at HL ⊢
    clear HS hd e0 hS
    go_enter Try.func21, Try.ntmps21
    go_wp2_with fail
    refine HP.out.mono ?_
    rintro e w1 ⟨rfl, hb1⟩
    have HB := Lib.hid (hb1.alloc hb1.size (.cells #[.string p.b, .int .i64 p.src, .int .u32 (p.to.toNat : Int), .bool p.hurt] 43))
    clear hb1
    go_wp2_with fail
    refine (HL.out _ HB.out).mono ?_
    rintro e w3 ⟨rfl, ns, r1, r2, r3⟩
    have HD := Lib.hid (Done.trail (F := refFace) (OnlyL.of_below (ms := ms) HB.out) r1 r2 r3 (.tuple #[.string ⟨#[]⟩, .int .i64 1]))
    clear r1 r2 r3
    go_wp2
    refine bodyPost_ret (v := .tuple #[.string ⟨#[]⟩, .int .i64 1]) (by simp [results, Try.results21, go_sem]) rfl ?_
    exact HD.out

theorem cburst_any (s : ByteArray) (at_ : Int) (p : BitVec 16) (w : World) (hs : s.size ≤ 255) (ha : at_ ≤ 9223372036854775807) :
    Calls Try.prog 36 #[.string s, .int .i64 at_, .int .u16 (p.toNat : Int)] w fun e w' => e = .returned (.string (burB s at_ p)) ∧ Below w.heap.size w w' := by
  unfold burB
  by_cases h0 : at_ < 0
  · rw [if_neg (by omega)]
    exact burst_out s at_ _ w h0
  · obtain ⟨a, rfl⟩ : ∃ a : Nat, at_ = a := ⟨at_.toNat, by omega⟩
    by_cases h1 : a < 8 * s.size
    · rw [if_pos (by omega), Int.toNat_natCast]
      by_cases h3 : (3 : Int) ≤ (s.size : Int) - (a : Int) / 8
      · exact burst_in s a 3 p w (by omega) h1 (.inl ⟨by omega, by omega, h3⟩)
      · exact burst_in s a (s.size - a / 8) p w (by omega) h1 (.inr ⟨by omega, by omega, h3⟩)
    · rw [if_neg (by omega)]
      exact burst_past s a _ w (by omega) ha

set_option maxRecDepth 100000 in
set_option maxHeartbeats 4000000 in
theorem cBurst_any (b : Nat) (ms : List Nat) (x : Bs) (k at_ : Int) (pat : BitVec 16) (w : World) (hx : RefAt w b ms x) (ha : at_ ≤ 9223372036854775807) :
    Calls Try.prog 18 #[.pointer (some ⟨b, 0, none⟩), .int .i64 k, .int .i64 at_, .int .u16 (pat.toNat : Int)] w (Done refFace b ms (.int .i64 (hurE x k)) (hurX x k at_ pat) w) := by
  unfold hurE hurX
  by_cases ht : thereB x k = true
  · obtain ⟨m, rfl, hm⟩ := there_nat ht
    obtain ⟨g, c, c0, hgm, hgb, hf, q0, q1, q2, q3⟩ := hx.piece m hm
    have hsm := (refFace.ok hx).small _ (List.getElem_mem hm)
    have hpc : pieceOf x (m : Int).toNat = x.l[m] := getD_lt _ _ hm
    have HU := cUnhurt_some b ms x m g c w hx hm c0 q3
    rw [hpc, ht]
    have HX := Lib.hid hx
    have HG := Lib.hid hgm
    have HGB := Lib.hid hgb
    have HP2 := Lib.hid (fun (W : World) (hb : Below w.heap.size w W) (o1 o2 : Nat) (h1 : o1 < 4) (h2 : o2 < 4) (p1 p2 : Pc) (u1 u2 : Value) => (Face.below (F := refFace) hx hb).put2 ((World.cell?_of_block (a := ⟨b, 0, none⟩) (hb.block b (World.block_lt_of_cell? w ⟨b, 0, none⟩ c0))).trans c0) hgb m hm o1 o2 h1 h2 p1 p2 u1 u2)
    have HC := Lib.hid (fun (W : World) (hb : Below w.heap.size w W) => show W.cell? ⟨g, m * 4, none⟩ = some (.string x.l[m].b) ∧ W.frozen? ⟨g, m * 4, none⟩ = false ∧ W.frozen? ⟨g, m * 4 + 3, none⟩ = false ∧ W.cell? ⟨g, m * 4 + 3, none⟩ = some (.bool x.l[m].hurt) from by
      have kg := hb.block g (World.block_lt_of_cell? w ⟨g, m * 4, none⟩ q0)
      exact ⟨(World.cell?_of_block (a := ⟨g, m * 4, none⟩) kg).trans q0, (World.frozen?_of_block (a := ⟨g, m * 4, none⟩) kg).trans (hf _), (World.frozen?_of_block (a := ⟨g, m * 4 + 3, none⟩) kg).trans (hf _), (World.cell?_of_block (a := ⟨g, m * 4 + 3, none⟩) kg).trans q3⟩)
    have HBu := Lib.hid (fun (W : World) => cburst_any x.l[m].b at_ pat W hsm ha)
    clear hx hpc hf hgm hgb c0
    generalize hp0 : x.l[m] = p at *
    by_cases hh : p.hurt = true
    · simp only [hh, Bool.not_true, Bool.and_false, if_true, if_false, Bool.false_eq_true]
      rw [if_pos hh] at HU
      replace HU := Lib.hid HU
      clear q0 q1 q2 q3 ht
      go_enter Try.func18, Try.ntmps18
      go_wp2_with fail
      refine HU.out.mono ?_
      rintro e w1 ⟨rfl, rfl⟩
      go_wp2
      go_ret
      exact Done.same (F := refFace) HX.out (Below.refl _ _)
    · rw [if_neg hh] at HU
      replace HU := Lib.hid HU
      replace hh : p.hurt = false := by simpa using hh
      simp only [hh, Bool.not_false, Bool.and_true, if_true, if_false, Bool.false_eq_true]
      rw [hh] at q3
      have HS := Lib.hid (burB_size p.b at_ pat)
      have HN := Lib.hid (show hurP p at_ pat = ⟨burB p.b at_ pat, p.src, p.to, !decide (burB p.b at_ pat = p.b)⟩ from rfl)
      generalize hurP p at_ pat = z at *
      generalize burB p.b at_ pat = y at *
      have hne : (y.toList != p.b.toList) = !decide (y = p.b) := by
        by_cases he : y = p.b
        · simp [he]
        · have := str_ne he
          simp only [he, decide_false, Bool.not_false]
          simpa [bne] using this
      generalize hd : (!decide (y = p.b)) = d at *
      clear ht
      go_enter Try.func18, Try.ntmps18
      go_wp2_with fail
      refine HU.out.mono ?_
      rintro e w1 ⟨rfl, rfl⟩
      go_wp2_with fail
      refine (HBu.out w).mono ?_
      rintro e w1 ⟨rfl, hb1⟩
      obtain ⟨e1, e2, e3, e4⟩ := HC.out w1 hb1
      have HB1 := Lib.hid hb1
      clear hb1 q0 q1 q2 q3
      go_wp2
      go_ret
      have hA := HP2.out w1 HB1.out 0 3 (by decide) (by decide) ⟨y, p.src, p.to, p.hurt⟩ z (.string y) (.bool (!(y.toList == p.b.toList))) (by simp [cells4]) (by rw [HN.out, ← hne]; rfl) (by show y.size ≤ 255; rw [HS.out]; exact hsm) (by rw [HN.out]; show y.size ≤ 255; rw [HS.out]; exact hsm)
      exact ⟨rfl, ms, hA, ((OnlyL.of_below (ms := ms) HB1.out).trans (OnlyL.set (ms := ms) (w := w1) (b := g) HG.out _ _) (fun j hj => .inl hj)).trans (OnlyL.set (ms := ms) (b := g) HG.out _ _) (fun j hj => .inl hj), fun j hj => .inl hj⟩
  · replace ht : thereB x k = false := by simpa using ht
    simp only [ht, Bool.false_and, if_false, Bool.false_eq_true]
    have HU := Lib.hid (cUnhurt_none b ms x k w hx ht)
    have HX := Lib.hid hx
    clear hx ht
    go_enter Try.func18, Try.ntmps18
    go_wp2_with fail
    refine HU.out.mono ?_
    rintro e w1 ⟨rfl, rfl⟩
    go_wp2
    go_ret
    exact Done.same (F := refFace) HX.out (Below.refl _ _)

end Go.Proofs.Ythepnckbooioeaa.Bus
