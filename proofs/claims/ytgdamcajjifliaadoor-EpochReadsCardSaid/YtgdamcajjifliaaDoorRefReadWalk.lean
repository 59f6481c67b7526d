/-
  The reference's reading of a text, walked. Conditions: a short text.
-/
import Derived.Test.YtgdamcajjifliaaDoorRefRead
namespace Go.Proofs.YtgdamcajjifliaaDoor
open Go.RowKit

/-- What the reference reads. -/
def refR (s : ByteArray) : Ep × Bool :=
  match nums s.data.toList with
  | [a, b, c] => if a ≤ 65535 ∧ b ≤ 255 ∧ c ≤ 65535 then (if textE ⟨a, b, c⟩ = s then (⟨a, b, c⟩, true) else (⟨0, 0, 0⟩, false)) else (⟨0, 0, 0⟩, false)
  | _ => (⟨0, 0, 0⟩, false)

theorem refR_len (s : ByteArray) (h : (nums s.data.toList).length ≠ 3) : refR s = (⟨0, 0, 0⟩, false) := by
  unfold refR
  split
  · rename_i e
    rw [e] at h
    simp at h
  · rfl

theorem own_form {w : World} {base : Nat} {e : TypeId} {size : Nat} {v : Value} {n : Nat} {xs : List Value} (h : w.ownsRow base e size v (n + 1) xs) : ∃ g cap, v = .slice (some ⟨g, 0, none⟩) (n + 1) cap ∧ base ≤ g := by
  rcases h.2 with ⟨_, h0⟩ | ⟨g, cap, cur, hv, hb, _⟩
  · omega
  · exact ⟨g, cap, hv, hb⟩

set_option maxRecDepth 100000 in
set_option maxHeartbeats 8000000 in
theorem rread_any (s : ByteArray) (hs : s.size ≤ 1000) (r : Ep) (ok : Bool) (hr : refR s = (r, ok)) (w : World) :
    Calls Tryd.prog 20 #[.string s] w fun e w' => e = .returned (.tuple #[.agg #[.int .u16 r.c, .int .u8 r.a, .int .u16 r.i], .bool ok]) ∧ Below w.heap.size w w' := by
  obtain ⟨i0, hi, hz0, hz1, hz2⟩ := info_parts Tryd.info3
  have HI := Lib.hid hi
  have H0 := Lib.hid hz0
  have H1 := Lib.hid hz1
  have H2 := Lib.hid hz2
  have HS := Lib.hid (Scan.start w s)
  clear hi hz0 hz1 hz2
  go_enter Tryd.func20, Tryd.ntmps20
  go_wp2
  generalize hN : w.heap.size = N at *
  go_loopw [4, 5] (fun v i wr => ∃ (k : Nat) (p : List Nat) (z g cap : Nat), k ≤ s.size ∧ i = .int .i64 k ∧ v = .slice (some ⟨g, 0, none⟩) (p.length + 1) cap ∧ Hid (Scan N w wr s k p z g cap)) (fun _ i _ => s.size - (intOf i).toNat)
  case atStart => exact ⟨0, [], 0, N + 1, 1, Nat.zero_le _, rfl, rfl, HS⟩
  case round =>
    obtain ⟨k, p, z, g, cap, hk, rfl, rfl, hS⟩ := hrel
    by_cases hlt : k < s.size
    · have hb : (s[k].toNat : Int) ≤ 255 := by have := s[k].toNat_lt; omega
      by_cases h46 : s[k].toNat = 46
      · have e1 : ((s[k].toNat : Int) == 46) = true := by simp; omega
        have he := Lib.hid (show scan1 (p, z) s[k] = (p ++ [z], 0) by unfold scan1; rw [if_pos h46])
        have HO := Lib.hid (hS.out.2.1.alloc (.cells #[.int .i64 0] 3))
        have hNs : N < wr.heap.size := hS.out.2.2.2.1.lt
        have hp : p.length ≤ 1000 := Nat.le_trans hS.out.1 (Nat.le_trans hk hs)
        clear h46
        go_wp2_with (at_builtin; refine wpList_append_own_at _ rfl (.tmp 21) (.tmp 22) 54 rfl (N + 1) 3 i0 (.int .i64 0) 1 8 Tryd.underlying54 HI.out H0.out H1.out H2.out rfl (by decide) _ (p.length + 1) (ivals (p ++ [z])) rfl HO.out ⟨wr.heap.size, 0, none⟩ 1 1 [.int .i64 0] rfl rfl (cell_one_new _ _ _) (by intro u hu; simp at hu; subst hu; rfl) (by unfold maxLen; omega) (by omega) (by simp; omega) ?_)
        intro v1 w1 hown hgrow _ _
        obtain ⟨g1, cap1, rfl, hg1⟩ := own_form hown
        have hS1 := Lib.hid (hS.out.dot hlt he.out hNs hown hgrow hg1)
        clear hown hgrow HO
        go_wp2
        go_roundw
        case rel => exact ⟨k + 1, p ++ [z], 0, g1, cap1, by omega, by go_num, by simp, hS1⟩
        case measure => simp [intOf]; omega
      · have e1 : ((s[k].toNat : Int) == 46) = false := by simp; omega
        by_cases hd : 48 ≤ s[k].toNat ∧ s[k].toNat ≤ 57 ∧ z < 100000
        · obtain ⟨d1, d2, d3⟩ := hd
          have he := Lib.hid (show scan1 (p, z) s[k] = (p, z * 10 + (s[k].toNat - 48)) by unfold scan1; rw [if_neg h46, if_pos ⟨d1, d2, d3⟩])
          obtain ⟨c0, f0⟩ := hS.out.last
          have t1 : decide ((48 : Int) ≤ (s[k].toNat : Int)) = true := by simp; omega
          have t2 : decide ((s[k].toNat : Int) ≤ 57) = true := by simp; omega
          have t3 : decide ((z : Int) < 100000) = true := by simp; omega
          have hm : (p.length : Int) ≤ 1000 := by have := Nat.le_trans hS.out.1 (Nat.le_trans hk hs); omega
          have v1 : IntKind.i64.wrap ((z : Int) * 10) = (z : Int) * 10 := by rw [IntKind.wrap_i64]; omega
          have v2 : IntKind.i64.wrap ((z : Int) * 10 + (s[k].toNat : Int)) = (z : Int) * 10 + (s[k].toNat : Int) := by rw [IntKind.wrap_i64]; omega
          have v3 : IntKind.i64.wrap ((z : Int) * 10 + (s[k].toNat : Int) - 48) = ((z * 10 + (s[k].toNat - 48) : Nat) : Int) := by rw [IntKind.wrap_i64]; omega
          have hS1 := Lib.hid (hS.out.digit hlt he.out)
          generalize z * 10 + (s[k].toNat - 48) = y at *
          clear h46 d1 d2 d3
          go_wp2
          go_roundw
          case rel => exact ⟨k + 1, p, y, g, cap, by omega, by go_num, rfl, hS1⟩
          case measure => simp [intOf]; omega
        · have he := Lib.hid (show scan1 (p, z) s[k] = (p, z) by unfold scan1; rw [if_neg h46, if_neg hd])
          have hS1 := Lib.hid (hS.out.skip hlt he.out)
          have hm : (p.length : Int) ≤ 1000 := by have := Nat.le_trans hS.out.1 (Nat.le_trans hk hs); omega
          obtain ⟨c0, f0⟩ := hS.out.last
          by_cases d1 : 48 ≤ s[k].toNat
          · by_cases d2 : s[k].toNat ≤ 57
            · have t1 : decide ((48 : Int) ≤ (s[k].toNat : Int)) = true := by simp; omega
              have t2 : decide ((s[k].toNat : Int) ≤ 57) = true := by simp; omega
              have t3 : decide ((z : Int) < 100000) = false := by simp; omega
              clear h46 hd d1 d2
              go_wp2
              go_roundw
              case rel => exact ⟨k + 1, p, z, g, cap, by omega, by go_num, rfl, hS1⟩
              case measure => simp [intOf]; omega
            · have t1 : decide ((48 : Int) ≤ (s[k].toNat : Int)) = true := by simp; omega
              have t2 : decide ((s[k].toNat : Int) ≤ 57) = false := by simp; omega
              clear h46 hd d1 d2
              go_wp2
              go_roundw
              case rel => exact ⟨k + 1, p, z, g, cap, by omega, by go_num, rfl, hS1⟩
              case measure => simp [intOf]; omega
          · have t1 : decide ((48 : Int) ≤ (s[k].toNat : Int)) = false := by simp; omega
            clear h46 hd d1
            go_wp2
            go_roundw
            case rel => exact ⟨k + 1, p, z, g, cap, by omega, by go_num, rfl, hS1⟩
            case measure => simp [intOf]; omega
    · obtain rfl : k = s.size := by omega
      have hsc := hS.out.2.2.1
      rw [List.drop_of_length_le (by rw [size_list]; exact Nat.le_refl _)] at hsc
      have hn : nums s.data.toList = p ++ [z] := by unfold nums; rw [hsc]; rfl
      have hm : (p.length : Int) ≤ 1000 := by have := Nat.le_trans hS.out.1 hs; omega
      have hT := hS.out.2.2.2.1
      have hbel := Lib.hid hS.out.2.2.2.2.1
      have hNs : N < wr.heap.size := hT.lt
      clear hsc
      by_cases h3 : p.length = 2
      · obtain ⟨a, b, rfl⟩ : ∃ a b, p = [a, b] := by
          match p, h3 with
          | [a, b], _ => exact ⟨a, b, rfl⟩
        have hn3 : nums s.data.toList = [a, b, z] := hn
        have hown := hS.out.2.1
        have q0 : wr.cell? ⟨g, 0, none⟩ = some (.int .i64 (a : Int)) := (hown.cellAt 0 (by simp)).trans rfl
        have q1 : wr.cell? ⟨g, 1, none⟩ = some (.int .i64 (b : Int)) := (hown.cellAt 1 (by simp)).trans rfl
        have q2 : wr.cell? ⟨g, 2, none⟩ = some (.int .i64 (z : Int)) := (hown.cellAt 2 (by simp)).trans rfl
        by_cases hfit : a ≤ 65535 ∧ b ≤ 255 ∧ z ≤ 65535
        · have hr1 : refR s = if textE ⟨a, b, z⟩ = s then (⟨a, b, z⟩, true) else (⟨0, 0, 0⟩, false) := by
            unfold refR
            rw [hn3]
            exact if_pos hfit
          obtain ⟨f1, f2, f3⟩ := hfit
          have HF := Lib.hid (show Ep.fit ⟨a, b, z⟩ from ⟨f1, f2, f3⟩)
          have k1 : decide ((65535 : Int) < (a : Int)) = false := by simp; omega
          have k2 : decide ((255 : Int) < (b : Int)) = false := by simp; omega
          have k3 : decide ((65535 : Int) < (z : Int)) = false := by simp; omega
          have v1 : IntKind.u16.wrap (a : Int) = a := by rw [IntKind.wrap_u16]; omega
          have v2 : IntKind.u8.wrap (b : Int) = b := by rw [IntKind.wrap_u8]; omega
          have v3 : IntKind.u16.wrap (z : Int) = z := by rw [IntKind.wrap_u16]; omega
          have HT := Lib.hid hT
          by_cases heq : textE ⟨a, b, z⟩ = s
          · rw [if_pos heq] at hr1
            rw [hr1] at hr
            obtain ⟨rfl, rfl⟩ := Prod.mk.inj hr
            have hq := str_eq heq
            clear hr hr1 hn hn3 h3 hown f1 f2 f3 heq hT
            go_wp2_with fail
            go_region_held3 (fun W' => W'.cell? ⟨g, 0, none⟩ = some (.int .i64 (a : Int)) ∧ W'.cell? ⟨g, 1, none⟩ = some (.int .i64 (b : Int)) ∧ W'.cell? ⟨g, 2, none⟩ = some (.int .i64 (z : Int))) (go_keep) (first | fail)
            have HA : Below wr.heap.size wr (wr.alloc (.cells #[.int .u16 a, .int .u8 b, .int .u16 z] 24)).drew := ((Below.refl _ _).alloc (Nat.le_refl _) _).drew
            have T1 := HT.out.below HA
            have B1 := hbel.out.trans (HA.mono (Nat.le_of_lt hNs))
            have D1 : Cells (wr.alloc (.cells #[.int .u16 a, .int .u8 b, .int .u16 z] 24)).drew wr.heap.size [.int .u16 a, .int .u8 b, .int .u16 z] := cells_mk wr [.int .u16 a, .int .u8 b, .int .u16 z] 24
            have L1 : N ≤ (wr.alloc (.cells #[.int .u16 a, .int .u8 b, .int .u16 z] 24)).drew.heap.size := Nat.le_trans (Nat.le_of_lt hNs) HA.size
            clear HA HT hbel q0 q1 q2 k1 k2 k3 v1 v2 v3
            go_wp2_with fail
            refine (rtext_any ⟨a, b, z⟩ HF.out _).mono ?_
            rintro e w2 ⟨rfl, hb2⟩
            obtain ⟨⟨c0, c1, c2⟩, f0, f1, f2⟩ := T1.below hb2
            have B2 := Lib.hid (B1.trans (hb2.mono L1))
            have D2 := Lib.hid (D1.below hb2)
            clear hb2 T1 B1 D1 L1
            have d0 := D2.out.2 0 _ rfl
            have d1 := D2.out.2 1 _ rfl
            have d2 := D2.out.2 2 _ rfl
            go_wp2
            refine bodyPost_ret (v := .tuple #[.agg #[.int .u16 (a : Nat), .int .u8 (b : Nat), .int .u16 (z : Nat)], .bool true]) ?_ rfl ⟨rfl, ?_⟩
            · simp [results, Tryd.results20, go_sem, c0, c1, c2]
            · exact ((B2.out.setCell (Nat.le_refl _) _).setCell (Nat.le_refl _) _).setCell (Nat.le_refl _) _
          · rw [if_neg heq] at hr1
            rw [hr1] at hr
            obtain ⟨rfl, rfl⟩ := Prod.mk.inj hr
            have hq := str_ne heq
            clear hr hr1 hn hn3 h3 hown f1 f2 f3 heq hT
            go_wp2_with fail
            go_region_held3 (fun W' => W'.cell? ⟨g, 0, none⟩ = some (.int .i64 (a : Int)) ∧ W'.cell? ⟨g, 1, none⟩ = some (.int .i64 (b : Int)) ∧ W'.cell? ⟨g, 2, none⟩ = some (.int .i64 (z : Int))) (go_keep) (first | fail)
            have HA : Below wr.heap.size wr (wr.alloc (.cells #[.int .u16 a, .int .u8 b, .int .u16 z] 24)).drew := ((Below.refl _ _).alloc (Nat.le_refl _) _).drew
            have T1 := HT.out.below HA
            have B1 := hbel.out.trans (HA.mono (Nat.le_of_lt hNs))
            have D1 : Cells (wr.alloc (.cells #[.int .u16 a, .int .u8 b, .int .u16 z] 24)).drew wr.heap.size [.int .u16 a, .int .u8 b, .int .u16 z] := cells_mk wr [.int .u16 a, .int .u8 b, .int .u16 z] 24
            have L1 : N ≤ (wr.alloc (.cells #[.int .u16 a, .int .u8 b, .int .u16 z] 24)).drew.heap.size := Nat.le_trans (Nat.le_of_lt hNs) HA.size
            clear HA HT hbel q0 q1 q2 k1 k2 k3 v1 v2 v3
            go_wp2_with fail
            refine (rtext_any ⟨a, b, z⟩ HF.out _).mono ?_
            rintro e w2 ⟨rfl, hb2⟩
            obtain ⟨⟨c0, c1, c2⟩, f0, f1, f2⟩ := T1.below hb2
            have B2 := Lib.hid (B1.trans (hb2.mono L1))
            have D2 := Lib.hid (D1.below hb2)
            clear hb2 T1 B1 D1 L1
            have d0 := D2.out.2 0 _ rfl
            have d1 := D2.out.2 1 _ rfl
            have d2 := D2.out.2 2 _ rfl
            go_wp2
            refine bodyPost_ret (v := .tuple #[.agg #[.int .u16 (0 : Nat), .int .u8 (0 : Nat), .int .u16 (0 : Nat)], .bool false]) ?_ rfl ⟨rfl, ?_⟩
            · simp [results, Tryd.results20, go_sem, c0, c1, c2]
            · exact ((B2.out.setCell (Nat.le_refl _) _).setCell (Nat.le_refl _) _).setCell (Nat.le_refl _) _
        · have hr0 : refR s = (⟨0, 0, 0⟩, false) := by
            unfold refR
            rw [hn3]
            exact if_neg hfit
          rw [hr0] at hr
          obtain ⟨rfl, rfl⟩ := Prod.mk.inj hr
          obtain ⟨⟨c0, c1, c2⟩, f0, f1, f2⟩ := hT
          clear hr hr0 hn hn3 h3 hown
          by_cases ha : a ≤ 65535
          · have k1 : decide ((65535 : Int) < (a : Int)) = false := by simp; omega
            by_cases hb2 : b ≤ 255
            · have k2 : decide ((255 : Int) < (b : Int)) = false := by simp; omega
              have k3 : decide ((65535 : Int) < (z : Int)) = true := by simp; omega
              clear ha hb2 hfit
              go_wp2
              refine bodyPost_ret (v := .tuple #[.agg #[.int .u16 (0 : Nat), .int .u8 (0 : Nat), .int .u16 (0 : Nat)], .bool false]) ?_ rfl ⟨rfl, ?_⟩
              · simp [results, Tryd.results20, go_sem, c0, c1, c2]
              · exact ((hbel.out.setCell (Nat.le_refl _) _).setCell (Nat.le_refl _) _).setCell (Nat.le_refl _) _
            · have k2 : decide ((255 : Int) < (b : Int)) = true := by simp; omega
              clear ha hb2 hfit
              go_wp2
              refine bodyPost_ret (v := .tuple #[.agg #[.int .u16 (0 : Nat), .int .u8 (0 : Nat), .int .u16 (0 : Nat)], .bool false]) ?_ rfl ⟨rfl, ?_⟩
              · simp [results, Tryd.results20, go_sem, c0, c1, c2]
              · exact ((hbel.out.setCell (Nat.le_refl _) _).setCell (Nat.le_refl _) _).setCell (Nat.le_refl _) _
          · have k1 : decide ((65535 : Int) < (a : Int)) = true := by simp; omega
            clear ha hfit
            go_wp2
            refine bodyPost_ret (v := .tuple #[.agg #[.int .u16 (0 : Nat), .int .u8 (0 : Nat), .int .u16 (0 : Nat)], .bool false]) ?_ rfl ⟨rfl, ?_⟩
            · simp [results, Tryd.results20, go_sem, c0, c1, c2]
            · exact ((hbel.out.setCell (Nat.le_refl _) _).setCell (Nat.le_refl _) _).setCell (Nat.le_refl _) _
      · have hr0 : refR s = (⟨0, 0, 0⟩, false) := refR_len s (by rw [hn]; simp; omega)
        rw [hr0] at hr
        obtain ⟨rfl, rfl⟩ := Prod.mk.inj hr
        have e3 : ¬ ((p.length : Int) + 1 = 3) := by omega
        have e4 : ¬ (p.length + 1 = 3) := by omega
        obtain ⟨⟨c0, c1, c2⟩, f0, f1, f2⟩ := hT
        clear hr hr0 hn h3
        go_wp2
        refine bodyPost_ret (v := .tuple #[.agg #[.int .u16 (0 : Nat), .int .u8 (0 : Nat), .int .u16 (0 : Nat)], .bool false]) ?_ rfl ⟨rfl, ?_⟩
        · simp [results, Tryd.results20, go_sem, c0, c1, c2]
        · exact ((hbel.out.setCell (Nat.le_refl _) _).setCell (Nat.le_refl _) _).setCell (Nat.le_refl _) _

end Go.Proofs.YtgdamcajjifliaaDoor
