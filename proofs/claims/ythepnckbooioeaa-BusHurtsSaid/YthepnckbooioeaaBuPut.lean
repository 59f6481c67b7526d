/-
  The reference's bus: a field of a piece stored; Cut, walked. Conditions: none.
-/
import Derived.Test.YthepnckbooioeaaBuOps
import Derived.StillTailTactics
namespace Go.Proofs.Ythepnckbooioeaa.Bus
open Go.RowKit

theorem OnlyL.drew {ms : List Nat} {a w : World} (h : OnlyL ms a w) : OnlyL ms a w.drew := ⟨h.os, h.tape, h.output, h.size, h.block⟩

theorem flat_put (u : Value) (p : Pc) (o : Nat) (ho : o < 4) : ∀ (l : List Pc) (k : Nat) (h : k < l.length), cells4 p = (cells4 l[k]).set o u → flat (l.set k p) = (flat l).set (k * 4 + o) u
  | [], k, h, _ => by simp at h
  | q :: l, 0, _, hu => by
    simp only [List.set_cons_zero, flat_cons, Nat.zero_mul, Nat.zero_add]
    rw [List.set_append_left _ _ (by simp [cells4]; omega), hu]
    rfl
  | q :: l, k + 1, h, hu => by
    simp only [List.set_cons_succ, flat_cons]
    rw [List.set_append_right _ _ (by simp [cells4]; omega), flat_put u p o ho l k (by simpa using h) hu]
    congr 1
    have : (k + 1) * 4 + o - (cells4 q).length = k * 4 + o := by simp [cells4]; omega
    rw [this]

theorem RefAt.put {w : World} {b g c : Nat} {ms : List Nat} {x : Bs} (h : RefAt w b ms x) (c0 : w.cell? ⟨b, 0, none⟩ = some (.slice (some ⟨g, 0, none⟩) x.l.length c)) (k : Nat) (hk : k < x.l.length) (o : Nat) (ho : o < 4) (p : Pc) (u : Value)
    (hu : cells4 p = (cells4 x.l[k]).set o u) (hp : p.b.size ≤ 255) : RefAt (w.setCell ⟨g, k * 4 + o, none⟩ u) b ms (putX x k p) := by
  obtain ⟨v, rfl, d0, c1, f0, f1, hw, hne, hok⟩ := h
  obtain rfl : v = .slice (some ⟨g, 0, none⟩) x.l.length c := by rw [d0] at c0; exact Option.some.inj c0
  have hbg : b ≠ g := fun e => hne (by simp [Value.ownBlock, e])
  have hb : (w.setCell ⟨g, k * 4 + o, none⟩ u).heap[b]? = w.heap[b]? := set_block _ _ _ _ _ hbg
  refine ⟨_, rfl, ?_, (World.cell?_of_block (a := ⟨b, 1, none⟩) hb).trans c1, (World.frozen?_of_block (a := ⟨b, 0, none⟩) hb).trans f0, (World.frozen?_of_block (a := ⟨b, 1, none⟩) hb).trans f1, ?_, hne, put_ok hok k p hp⟩
  · exact (World.cell?_of_block (a := ⟨b, 0, none⟩) hb).trans d0
  · have := (World.ownsRow.stored hw (k * 4 + o) u).1
    unfold putX
    rw [flat_put u p o ho x.l k hk hu, List.length_set]
    exact this

theorem RefAt.put2 {w : World} {b g c : Nat} {ms : List Nat} {x : Bs} (h : RefAt w b ms x) (c0 : w.cell? ⟨b, 0, none⟩ = some (.slice (some ⟨g, 0, none⟩) x.l.length c)) (hbg : g ≠ b) (k : Nat) (hk : k < x.l.length) (o1 o2 : Nat) (h1 : o1 < 4) (h2 : o2 < 4) (p1 p2 : Pc) (u1 u2 : Value)
    (hu1 : cells4 p1 = (cells4 x.l[k]).set o1 u1) (hu2 : cells4 p2 = (cells4 p1).set o2 u2) (hp1 : p1.b.size ≤ 255) (hp2 : p2.b.size ≤ 255) : RefAt ((w.setCell ⟨g, k * 4 + o1, none⟩ u1).setCell ⟨g, k * 4 + o2, none⟩ u2) b ms (putX x k p2) := by
  have hA := h.put c0 k hk o1 h1 p1 u1 hu1 hp1
  have e : putX (putX x k p1) k p2 = putX x k p2 := by unfold putX; rw [List.set_set]
  have hl : (putX x k p1).l.length = x.l.length := by unfold putX; rw [List.length_set]
  rw [← e]
  refine hA.put (c := c) ?_ k (by omega) o2 h2 p2 u2 ?_ hp2
  · rw [hl, World.cell?_of_block (a := ⟨b, 0, none⟩) (set_block w g (k * 4 + o1) u1 b (fun e => hbg e.symm))]
    exact c0
  · have : (putX x k p1).l[k]'(by omega) = p1 := by unfold putX; simp
    rw [this]
    exact hu2

def cutOk (p : Pc) (n : Int) : Bool := decide (1 ≤ n ∧ n < p.b.size)
def cutP (p : Pc) (n : Int) : Pc := ⟨p.b.extract 0 (p.b.size - n.toNat), p.src, p.to, true⟩
def cutX (x : Bs) (k n : Int) : Bs := if thereB x k && (!(pieceOf x k.toNat).hurt && cutOk (pieceOf x k.toNat) n) then putX x k.toNat (cutP (pieceOf x k.toNat) n) else x
def cutE (x : Bs) (k n : Int) : Int := if thereB x k then if (pieceOf x k.toNat).hurt then 11 else if cutOk (pieceOf x k.toNat) n then 0 else 1 else 1
theorem cut_small {p : Pc} {n : Int} (h : p.b.size ≤ 255) : (cutP p n).b.size ≤ 255 := by
  unfold cutP
  show (p.b.extract 0 (p.b.size - n.toNat)).size ≤ 255
  rw [ByteArray.size_extract]
  omega

set_option maxRecDepth 100000 in
set_option maxHeartbeats 4000000 in
theorem rCut_any (b : Nat) (ms : List Nat) (x : Bs) (k n : Int) (w : World) (hx : RefAt w b ms x) :
    Calls Try.prog 28 #[.pointer (some ⟨b, 0, none⟩), .int .i64 k, .int .i64 n] w (Done refFace b ms (.int .i64 (cutE x k n)) (cutX x k n) w) := by
  have HT := Lib.hid (rThere_any b ms x k w hx)
  unfold cutE cutX
  by_cases ht : thereB x k = true
  · obtain ⟨m, rfl, hm⟩ := there_nat ht
    have hmi : (m : Int) < (x.l.length : Int) := by omega
    obtain ⟨g, c, c0, hgm, hgb, hf, q0, q1, q2, q3⟩ := hx.piece m hm
    have hsm := (refFace.ok hx).small _ (List.getElem_mem hm)
    have hpc : pieceOf x (m : Int).toNat = x.l[m] := getD_lt _ _ hm
    have HR := HT.out
    rw [ht] at HR
    replace HR := Lib.hid HR
    rw [hpc, ht]
    have HX := Lib.hid hx
    have HP2 := Lib.hid (fun (o1 o2 : Nat) (h1 : o1 < 4) (h2 : o2 < 4) (p1 p2 : Pc) (u1 u2 : Value) => hx.put2 c0 hgb m hm o1 o2 h1 h2 p1 p2 u1 u2)
    have HPut := Lib.hid (fun (o : Nat) (ho : o < 4) (p : Pc) (u : Value) (hu : cells4 p = (cells4 x.l[m]).set o u) (hp : p.b.size ≤ 255) => hx.put c0 m hm o ho p u hu hp)
    clear hx HT hpc
    have fz0 := hf (m * 4)
    have fz3 := hf (m * 4 + 3)
    have HG := Lib.hid hgm
    have HGB := Lib.hid hgb
    have HL := Lib.hid hm
    clear hf hgm hgb
    generalize hp0 : x.l[m] = p at *
    go_enter Try.func28, Try.ntmps28
    by_cases hh : p.hurt = true
    · simp only [hh, Bool.not_true, Bool.false_and, Bool.and_false, if_true, if_false, Bool.false_eq_true]
      rw [hh] at q3
      go_wp2_with fail
      refine HR.out.mono ?_
      rintro e w1 ⟨rfl, rfl⟩
      go_wp2
      go_ret
      exact Done.same (F := refFace) HX.out (Below.refl _ _)
    · replace hh : p.hurt = false := by simpa using hh
      rw [hh] at q3
      by_cases hok : 1 ≤ n ∧ n < p.b.size
      · have hc : cutOk p n = true := by simpa [cutOk] using hok
        simp only [hh, hc, Bool.not_false, Bool.and_true, if_true, if_false, Bool.false_eq_true]
        obtain ⟨a, rfl⟩ : ∃ a : Nat, n = a := ⟨n.toNat, by omega⟩
        have t1 : ¬ (a : Int) < 1 := by omega
        have t2 : ¬ (p.b.size : Int) ≤ a := by omega
        have t3 : (0 : Int) ≤ (p.b.size : Int) - a := by omega
        have t5 : a ≤ p.b.size := by omega
        obtain ⟨r, hr⟩ : ∃ r : Nat, p.b.size - a = r := ⟨_, rfl⟩
        have t4 : r ≤ p.b.size := by omega
        have t6 : IntKind.i64.wrap ((p.b.size : Int) - a) = (r : Int) := by rw [IntKind.wrap_i64]; omega
        go_wp2_with fail
        refine HR.out.mono ?_
        rintro e w1 ⟨rfl, rfl⟩
        go_wp2_with fail
        go_still_tail 17, (by kernel_rfl)
        change wpList _ _ _ _ _ w.drew
        have hg1 : ¬ g = b := HGB.out
        have hg2 : ¬ b = g := fun e => HGB.out e.symm
        go_wp2
        go_ret
        have hA := HP2.out 0 3 (by decide) (by decide) ⟨p.b.extract 0 r, p.src, p.to, false⟩ (cutP p a) (.string (p.b.extract 0 r)) (.bool true) (by simp [cells4]; exact hh) (by rw [show cutP p a = ⟨p.b.extract 0 r, p.src, p.to, true⟩ by unfold cutP; rw [show p.b.size - (a : Int).toNat = r from hr]]; rfl) (by rw [ByteArray.size_extract]; omega) (cut_small hsm)
        exact ⟨rfl, ms, hA, ((OnlyL.set (ms := ms) (w := w) (b := g) HG.out _ _).trans (OnlyL.set (ms := ms) (b := g) HG.out _ _) (fun j hj => .inl hj)).drew, fun j hj => .inl hj⟩
      · have hc : cutOk p n = false := by simpa [cutOk] using hok
        simp only [hh, hc, Bool.not_false, Bool.and_false, if_true, if_false, Bool.false_eq_true]
        go_wp2_with fail
        refine HR.out.mono ?_
        rintro e w1 ⟨rfl, rfl⟩
        by_cases h1 : n < 1
        · go_wp2
          go_ret
          exact Done.same (F := refFace) HX.out (Below.refl _ _)
        · have h2 : (p.b.size : Int) ≤ n := by omega
          go_wp2
          go_ret
          exact Done.same (F := refFace) HX.out (Below.refl _ _)
  · replace ht : thereB x k = false := by simpa using ht
    simp only [ht, Bool.false_and, if_false, Bool.false_eq_true]
    have HR := HT.out
    rw [ht] at HR
    replace HR := Lib.hid HR
    have HX := Lib.hid hx
    clear hx HT
    go_enter Try.func28, Try.ntmps28
    go_wp2_with fail
    refine HR.out.mono ?_
    rintro e w1 ⟨rfl, rfl⟩
    go_wp2
    go_ret
    exact Done.same (F := refFace) HX.out (Below.refl _ _)

end Go.Proofs.Ythepnckbooioeaa.Bus
