/-
  The landed code of layer 14, walked: calls on kinds; lead. Conditions: as each states.
-/
import Derived.Test.YtmlopacekoghkaaIkAR
import Derived.Test.YtmlopacekoghkaaVeVal
import Derived.Test.YtmlopacekoghkaaIeDo
namespace Go.Proofs.Ytmlopacekoghkaa.Ve
open Go.RowKit
open Go.Proofs.Ytmlopacekoghkaa.Il hiding Next
open Go.Proofs.Ytmlopacekoghkaa.Ic

def storeB (op : Int) : Bool := decide (3 ≤ op ∧ op ≤ 6)
def blockB (op : Int) : Bool := decide (34 ≤ op ∧ op ≤ 36)

theorem cJump_any (op : Int) (w : World) : Calls Try.prog 58 #[.int .i64 op] w fun e w' => e = .returned (.bool (jumpB op)) ∧ w = w' := by
  have hv : jumpB op = (decide (25 ≤ op) && decide (op ≤ 27)) := by
    unfold jumpB
    by_cases h : 25 ≤ op <;> by_cases h2 : op ≤ 27 <;> simp [h, h2]
  rw [hv]
  clear hv
  by_cases h3 : 25 ≤ op <;> by_cases h6 : op ≤ 27
  all_goals
    simp only [h3, h6, decide_true, decide_false]
    go_enter Try.func58, Try.ntmps58
    go_wp2
    go_ret
    exact ⟨rfl, rfl⟩
theorem cReturn_any (op : Int) (w : World) : Calls Try.prog 71 #[.int .i64 op] w fun e w' => e = .returned (.bool (retB op)) ∧ w = w' := by
  have hv : retB op = (decide (28 ≤ op) && decide (op ≤ 30)) := by
    unfold retB
    by_cases h : 28 ≤ op <;> by_cases h2 : op ≤ 30 <;> simp [h, h2]
  rw [hv]
  clear hv
  by_cases h3 : 28 ≤ op <;> by_cases h6 : op ≤ 30
  all_goals
    simp only [h3, h6, decide_true, decide_false]
    go_enter Try.func71, Try.ntmps71
    go_wp2
    go_ret
    exact ⟨rfl, rfl⟩
theorem cOrder_any (op : Int) (w : World) : Calls Try.prog 76 #[.int .i64 op] w fun e w' => e = .returned (.bool (ordB op)) ∧ w = w' := by
  have hv : ordB op = (decide (19 ≤ op) && decide (op ≤ 24)) := by
    unfold ordB
    by_cases h : 19 ≤ op <;> by_cases h2 : op ≤ 24 <;> simp [h, h2]
  rw [hv]
  clear hv
  by_cases h3 : 19 ≤ op <;> by_cases h6 : op ≤ 24
  all_goals
    simp only [h3, h6, decide_true, decide_false]
    go_enter Try.func76, Try.ntmps76
    go_wp2
    go_ret
    exact ⟨rfl, rfl⟩
theorem cMade_any (op kd : Int) (w : World) : Calls Try.prog 72 #[.int .i64 op, .int .i64 kd] w fun e w' => e = .returned (.int .i64 (madeI op kd)) ∧ w = w' := by
  have HO := Lib.hid (fun W => cOrder_any op W)
  unfold madeI
  cases h : ordB op
  · rw [h] at HO
    rw [if_neg (by simp)]
    clear h
    go_enter Try.func72, Try.ntmps72
    go_wp2_with fail
    refine (HO.out _).mono ?_
    rintro e w1 ⟨rfl, rfl⟩
    go_wp2
    go_ret
    exact ⟨rfl, rfl⟩
  · rw [h] at HO
    rw [if_pos rfl]
    clear h
    go_enter Try.func72, Try.ntmps72
    go_wp2_with fail
    refine (HO.out _).mono ?_
    rintro e w1 ⟨rfl, rfl⟩
    go_wp2
    go_ret
    exact ⟨rfl, rfl⟩
theorem cLogic_any (kd : Int) (w : World) : Calls Try.prog 74 #[.int .i64 kd] w (Tells (.bool (mayI 13 kd)) w) := by
  have HM := Lib.hid (fun W => cMay_any 13 kd W)
  generalize mayI 13 kd = b at *
  go_enter Try.func74, Try.ntmps74
  go_wp2_with fail
  refine (HM.out _).mono ?_
  rintro e w1 ⟨rfl, hb⟩
  go_wp2
  go_ret
  exact ⟨rfl, hb⟩
def usesB (writes : Bool) (op : Int) : Bool := if writes then storeB op || blockB op else !storeB op
end Go.Proofs.Ytmlopacekoghkaa.Ve

namespace Go.Proofs.Ytmlopacekoghkaa.Ve
open Go.RowKit
open Go.Proofs.Ytmlopacekoghkaa.Il hiding Next
open Go.Proofs.Ytmlopacekoghkaa.Ic

attribute [local go_sem ↓] exec_ldS exec_stS exec_ldO
/-- The row with one more put in; nothing else has turned. -/
structure Led (w w' : World) (N g n : Nat) (l : List Ah) : Prop where
  row : SRow w' N g n l
  only : w.grownBy w' (some g)
theorem set_same {l : List Ah} {k : Nat} (hk : k < l.length) : l.set k (gt l k) = l := by
  apply List.ext_getElem?
  intro j
  rw [List.getElem?_set]
  by_cases e : k = j
  · subst e
    rw [if_pos rfl, if_pos hk, gt_some hk]
  · rw [if_neg e]
section
variable {w : World} {N g n k : Nat} {l : List Ah} {b : Ah}
theorem two_S (w : World) (A B : Array Value) (t s : TypeId) : w.grownBy ((w.alloc (.cells A t)).alloc (.cells B s)) (some g) :=
  only_tr (World.grownBy_alloc w _ _) (World.grownBy_alloc _ _ _)

set_option maxRecDepth 100000 in
set_option maxHeartbeats 4000000 in
theorem lead_off (hR : SRow w N g n l) (hk : k < n) (hn : n ≤ 4000) (hb : Wf b) (hon : (gt l k).on = false) :
    Calls Try.prog 61 #[.slice (some ⟨g, 0, none⟩) n n, .int .i64 k, .agg (stA b)] w fun e w' => e = .returned (.bool (joinO (gt l k) b)) ∧ Led w w' N g n (putB l k b) := by
  have ej : joinO (gt l k) b = true := by unfold joinO; rw [hon]; rfl
  have ep : putB l k b = l.set k b := by unfold putB joinK; rw [hon]; rfl
  rw [ej, ep]
  have wa := hR.wf k
  have sa := stA_size wa.len
  have sb := stA_size hb.len
  have oa := stA_one (gt l k)
  have ob := stA_one b
  have a0 := stA_0 (gt l k)
  rw [hon] at a0
  have R1 := hR.alloc (.cells (stA b) 96)
  have R2 := R1.alloc (.cells (stA (gt l k)) 96)
  have h1 := ldS_of _ g (k * 19) _ (R1.range hk) (stC_len wa.len)
  have h2 : ∀ z : Array Value, z.size = 19 → stS (.pointer (some ⟨w.heap.size + 1, 0, none⟩)) (.agg (stA (gt l k))) ((w.alloc (.cells (stA b) 96)).alloc (.cells z 96)) = .ok .skip ((w.alloc (.cells (stA b) 96)).alloc (.cells (stA (gt l k)) 96)) :=
    fun z hz => stS_new _ _ z _ _ (by simp) hz sa oa
  have h3 := ldS_of _ w.heap.size 0 _ (range_below (range_new w (stA b) 96) ((Below.refl _ _).alloc (Nat.le_refl _) (.cells (stA (gt l k)) 96))) (stC_len hb.len)
  have h4 := stS_of _ g (k * 19) (stA b) (R2.there hk) sb ob
  have HE := Lib.hid (show Led w (((w.alloc (.cells (stA b) 96)).alloc (.cells (stA (gt l k)) 96)).setCells g (k * 19) (stC b)) N g n (l.set k b) from
    ⟨R2.put hb hk, only_tr (two_S w _ _ _ _) (only_setCells _ _ _)⟩)
  rw [show (stC (gt l k)).toArray = stA (gt l k) from rfl] at h1
  rw [show (stA b).toList.toArray = stA b from rfl] at h3
  rw [show (stA b).toList = stC b from rfl] at h4
  generalize stA (gt l k) = X at *
  generalize stA b = Y at *
  generalize stC b = C at *
  have hki : (k : Int) < n := by omega
  have hni : (n : Int) ≤ 4000 := by omega
  clear R1 R2 hR hk hn hb wa ej ep hon sa sb oa ob
  go_enter Try.func61, Try.ntmps61
  go_wp2
  go_ret
  exact ⟨rfl, HE.out⟩
theorem range_open {W : World} {b o : Nat} {a : Ah} (h : W.rangeAt b o (stC a)) : W.rangeAt b (o + 3) (openC a.br) := fun j v hv => by
  rw [Nat.add_assoc]
  refine h (3 + j) v ?_
  rw [Nat.add_comm 3 j]
  exact hv
theorem range_cell {W : World} {b o j : Nat} {c : List Value} {v : Value} (h : W.rangeAt b o c) (hv : c[j]? = some v) : W.cell? ⟨b, o + j, none⟩ = some v := h j v hv

set_option maxRecDepth 100000 in
set_option maxHeartbeats 4000000 in
theorem lead_same (hR : SRow w N g n l) (hk : k < n) (hn : n ≤ 4000) (hb : Wf b) (hon : (gt l k).on = true) (he : (gt l k).kd = b.kd) :
    Calls Try.prog 61 #[.slice (some ⟨g, 0, none⟩) n n, .int .i64 k, .agg (stA b)] w fun e w' => e = .returned (.bool (joinO (gt l k) b)) ∧ Led w w' N g n (putB l k b) := by
  have ej : joinO (gt l k) b = decide ((gt l k).br = b.br) := by unfold joinO; rw [hon]; rfl
  have ep : putB l k b = l := by
    have h := set_same (l := l) (k := k) (by rw [hR.len]; exact hk)
    unfold putB joinK
    rw [if_pos hon, if_pos he]
    have e2 : (⟨true, (gt l k).kd, (gt l k).br⟩ : Ah) = gt l k := by rw [← hon]
    rw [e2, h]
  rw [ej, ep]
  have wa := hR.wf k
  have a0 := stA_0 (gt l k)
  rw [hon] at a0
  have a1 := stA_1 (gt l k)
  have b1 := stA_1 b
  rw [he] at a1
  have R1 := hR.alloc (.cells (stA b) 96)
  have R2 := R1.alloc (.cells (stA (gt l k)) 96)
  have h1 := ldS_of _ g (k * 19) _ (R1.range hk) (stC_len wa.len)
  have h2 : ∀ z : Array Value, z.size = 19 → stS (.pointer (some ⟨w.heap.size + 1, 0, none⟩)) (.agg (stA (gt l k))) ((w.alloc (.cells (stA b) 96)).alloc (.cells z 96)) = .ok .skip ((w.alloc (.cells (stA b) 96)).alloc (.cells (stA (gt l k)) 96)) :=
    fun z hz => stS_new _ _ z _ _ (by simp) hz (stA_size wa.len) (stA_one _)
  have g5 := range_below (range_new w (stA b) 96) ((Below.refl _ _).alloc (Nat.le_refl _) (.cells (stA (gt l k)) 96))
  have g7 := range_new (w.alloc (.cells (stA b) 96)) (stA (gt l k)) 96
  rw [show (w.alloc (.cells (stA b) 96)).heap.size = w.heap.size + 1 by simp] at g7
  have h3 := ldO_of _ w.heap.size 3 _ (range_open g5) (open_len hb.len)
  have h4 := ldO_of _ (w.heap.size + 1) 3 _ (range_open g7) (open_len wa.len)
  have HQ := open_run (gt l k) b wa hb
  have hgd := Try.guardArr
  have HE := Lib.hid (show Led w ((w.alloc (.cells (stA b) 96)).alloc (.cells (stA (gt l k)) 96)) N g n l from ⟨R2, two_S w _ _ _ _⟩)
  rw [show (stC (gt l k)).toArray = stA (gt l k) from rfl] at h1
  have hkk : (b.kd == b.kd) = true := by simp
  generalize stA (gt l k) = X at *
  generalize stA b = Y at *
  generalize (openC (gt l k).br).toArray = E1 at *
  generalize (openC b.br).toArray = E2 at *
  generalize decide ((gt l k).br = b.br) = q at *
  have hki : (k : Int) < n := by omega
  have hni : (n : Int) ≤ 4000 := by omega
  clear R1 R2 hR hk hn hb wa ej ep hon g5 g7 he
  go_enter Try.func61, Try.ntmps61
  go_wp2
  go_ret
  exact ⟨rfl, HE.out⟩

set_option maxRecDepth 100000 in
set_option maxHeartbeats 4000000 in
theorem lead_other (hR : SRow w N g n l) (hk : k < n) (hn : n ≤ 4000) (hb : Wf b) (hon : (gt l k).on = true) (he : (gt l k).kd ≠ b.kd) :
    Calls Try.prog 61 #[.slice (some ⟨g, 0, none⟩) n n, .int .i64 k, .agg (stA b)] w fun e w' => e = .returned (.bool (joinO (gt l k) b)) ∧ Led w w' N g n (putB l k b) := by
  have ej : joinO (gt l k) b = decide ((gt l k).br = b.br) := by unfold joinO; rw [hon]; rfl
  have ep : putB l k b = l.set k ⟨true, 0, (gt l k).br⟩ := by
    unfold putB joinK
    rw [if_pos hon, if_neg he]
  rw [ej, ep]
  have wa := hR.wf k
  have a0 := stA_0 (gt l k)
  rw [hon] at a0
  have a1 := stA_1 (gt l k)
  have b1 := stA_1 b
  have R1 := hR.alloc (.cells (stA b) 96)
  have R2 := R1.alloc (.cells (stA (gt l k)) 96)
  have h1 := ldS_of _ g (k * 19) _ (R1.range hk) (stC_len wa.len)
  have h2 : ∀ z : Array Value, z.size = 19 → stS (.pointer (some ⟨w.heap.size + 1, 0, none⟩)) (.agg (stA (gt l k))) ((w.alloc (.cells (stA b) 96)).alloc (.cells z 96)) = .ok .skip ((w.alloc (.cells (stA b) 96)).alloc (.cells (stA (gt l k)) 96)) :=
    fun z hz => stS_new _ _ z _ _ (by simp) hz (stA_size wa.len) (stA_one _)
  have R0 := hR.zero hk hon
  obtain ⟨W0, hW0⟩ : ∃ W0, W0 = w.setCell ⟨g, k * 19 + 1, none⟩ (.int .i64 0) := ⟨_, rfl⟩
  have hs0 : W0.heap.size = w.heap.size := by rw [hW0]; simp
  have g5 := range_below (range_new W0 (stA b) 96) ((Below.refl _ _).alloc (Nat.le_refl _) (.cells (stA (gt l k)) 96))
  have g7 := range_new (W0.alloc (.cells (stA b) 96)) (stA (gt l k)) 96
  rw [show (W0.alloc (.cells (stA b) 96)).heap.size = w.heap.size + 1 by simp [hs0]] at g7
  rw [hs0] at g5
  have h3 := ldO_of _ w.heap.size 3 _ (range_open g5) (open_len hb.len)
  have h4 := ldO_of _ (w.heap.size + 1) 3 _ (range_open g7) (open_len wa.len)
  have HQ := open_run (gt l k) b wa hb
  have hgd := Try.guardArr
  have hgl := hR.lt.2
  have ck := hR.cell hk (j := 1) rfl
  have fk := hR.free (k * 19 + 1)
  have HE := Lib.hid (show Led w ((W0.alloc (.cells (stA b) 96)).alloc (.cells (stA (gt l k)) 96)) N g n (l.set k ⟨true, 0, (gt l k).br⟩) from by
    rw [hW0]
    exact ⟨(R0.alloc _).alloc _, only_tr (only_setv _ _ _ _) (two_S _ _ _ _ _)⟩)
  rw [hW0] at h3 h4 HE
  rw [show (stC (gt l k)).toArray = stA (gt l k) from rfl] at h1
  have hkk : ((gt l k).kd != b.kd) = true := by simpa using he
  have hki : (k : Int) < n := by omega
  have hni : (n : Int) ≤ 4000 := by omega
  clear R0 hW0 hs0 R1 R2 hR hk g5 g7 he
  generalize stA (gt l k) = X at *
  generalize stA b = Y at *
  generalize (openC (gt l k).br).toArray = E1 at *
  generalize (openC b.br).toArray = E2 at *
  generalize decide ((gt l k).br = b.br) = q at *
  generalize (gt l k).kd = ak at *
  generalize b.kd = bk at *
  clear hn hb wa ej ep hon
  go_enter Try.func61, Try.ntmps61
  go_wp2
  go_ret
  exact ⟨rfl, HE.out⟩
theorem cLead_any (hR : SRow w N g n l) (hk : k < n) (hn : n ≤ 4000) (hb : Wf b) :
    Calls Try.prog 61 #[.slice (some ⟨g, 0, none⟩) n n, .int .i64 k, .agg (stA b)] w fun e w' => e = .returned (.bool (joinO (gt l k) b)) ∧ Led w w' N g n (putB l k b) := by
  cases hon : (gt l k).on
  · exact lead_off hR hk hn hb hon
  · by_cases he : (gt l k).kd = b.kd
    · exact lead_same hR hk hn hb hon he
    · exact lead_other hR hk hn hb hon he
end
end Go.Proofs.Ytmlopacekoghkaa.Ve
