/-
  fits, refuse: walked. Conditions: as each states.
-/
import Derived.Test.YtbfjimbffpkkhaaPaCmp
import Derived.Laws.BitsAllLaws
namespace Go.Proofs.Ytbfjimbffpkkhaa.Pa
open Go.RowKit

/-- A frame in a block of the call's own, beside a glue. -/
structure Bx (w W : World) (B b n : Nat) (g : Gl) (f : Fr) : Prop where
  box : FrAt W B 0 f
  gl : GAt W b n g
  bel : Below w.heap.size w W
section
variable {w W W' : World} {B b n : Nat} {g : Gl} {f : Fr}
theorem Bx.drew (h : Bx w W B b n g f) : Bx w W.drew B b n g f := ⟨h.box, h.gl, h.bel.drew⟩
theorem Bx.drewN (h : Bx w W B b n g f) (m : Nat) : Bx w (W.drewN m) B b n g f := ⟨h.box, h.gl, h.bel.trans (below_drewN _ _ _)⟩
theorem Bx.next (h : Bx w W B b n g f) (hb : Below W.heap.size W W') : Bx w W' B b n g f := ⟨h.box.below hb, h.gl.below hb, h.bel.trans (hb.mono h.bel.size)⟩
theorem Bx.new (hg : GAt w b n g) (f : Fr) : Bx w (w.alloc (.cells (frA f) 33)) w.heap.size b n g f := ⟨FrAt.new _ _ _, hg.below (one_S _ _ _), one_S _ _ _⟩
theorem FrAt.at (h : FrAt W B 0 f) (k : Nat) {v : Value} (hv : (frC f)[k]? = some v) : W.cell? ⟨B, k, none⟩ = some v := by
  have := h k v hv
  rwa [Nat.zero_add] at this
end

set_option maxRecDepth 100000 in
set_option maxHeartbeats 4000000 in
theorem cFits (b n : Nat) (g : Gl) (f : Fr) (w : World) (hg : GAt w b n g) (hn : 1 ≤ n ∧ n ≤ 64) (hf : FitF f) (hl : f.bytes.length ≤ maxLen) :
    Calls Try.prog 44 #[.pointer (some ⟨b, 0, none⟩), .agg (frA f)] w (Tells (.bool (fitsB n f)) w) := by
  have HP := Lib.hid (Bx.new hg f)
  have hp := hf.pt
  have hq := hf.ps
  have hpi : (f.part : Int) ≤ 255 := by omega
  have hqi : (f.parts : Int) ≤ 255 := by omega
  have hli : (f.bytes.length : Int) ≤ 9223372036854775807 := by unfold maxLen at hl; omega
  have hPN := parts_pN hn.1 hn.2
  have hmf := @fits_iff n f
  obtain ⟨R, hR⟩ : ∃ R, R = fitsB n f := ⟨_, rfl⟩
  rw [← hR] at hmf ⊢
  have c00 := HP.out.gl.c0
  clear hg hf
  go_enter Try.func44, Try.ntmps44
  go_wp2_with fail
  refine world_cut (G := fun W => Calls _ _ _ W _) (fun W => Bx w W w.heap.size b n g f) (by exact HP.out) ?_
  rintro W hP
  have c0 := hP.gl.c0
  have x16 := hP.box.at 16 rfl
  have x17 := hP.box.at 17 rfl
  have x18 := hP.box.at 18 rfl
  have HQ := Lib.hid hP
  clear HP hP c00
  generalize w.heap.size = B at *
  refine (cParts_any n W).mono ?_
  rintro e w1 ⟨rfl, rfl⟩
  have HPN := Lib.hid hPN
  have hs : (S f.bytes).size = f.bytes.length := S_size _
  by_cases h1 : f.parts = pN n
  · have e1 : ((f.parts : Int) != partsN n) = false := by rw [hPN]; simp [h1]
    by_cases h2 : f.part < pN n
    · have e2 : decide (partsN n ≤ (f.part : Int)) = false := by rw [hPN]; simp; omega
      obtain ⟨ha, hb⟩ := at_pN hn.1 hn.2 h2
      have e3 : ((f.bytes.length : Int) == lenP n f.part) = R := by
        rw [hb, Bool.eq_iff_iff, hmf, beq_iff_eq]
        constructor
        · intro h; exact ⟨h1, h2, by omega⟩
        · intro h; have := h.2.2; omega
      have HC := Lib.hid (fun W => cPiece_any n f.part W (by unfold I64; omega))
      clear hPN ha hb hmf hR h1 h2 hn hl hp hq
      generalize partsN n = P at *
      generalize atP n f.part = A at *
      generalize lenP n f.part = L at *
      go_wp2
      have hwp : IntKind.i64.wrap (f.part : Int) = f.part := by rw [IntKind.wrap_i64]; omega
      go_region_held3 (fun W' => W'.cell? ⟨b, 0, none⟩ = some (.int .i64 n) ∧ W'.cell? ⟨B, 16, none⟩ = some (.int .u8 f.part)) (first | exact ⟨c0, x16⟩)
        ((go_at_call 40; (with_reducible refine (HC.out _).mono ?_); rintro e w1 ⟨rfl, rfl⟩))
      go_wp2
      go_ret
      exact ⟨rfl, HQ.out.drew.bel⟩
    · have e2 : decide (partsN n ≤ (f.part : Int)) = true := by rw [hPN]; simp; omega
      have hRf : R = false := by
        rw [← Bool.not_eq_true, hmf]
        exact fun h => h2 h.2.1
      subst hRf
      clear hPN hmf hR h1 h2 hn hl hp hq
      generalize partsN n = P at *
      go_wp2
      go_ret
      exact ⟨rfl, HQ.out.bel⟩
  · have e1 : ((f.parts : Int) != partsN n) = true := by rw [hPN, bne_iff_ne]; omega
    have hRf : R = false := by
      rw [← Bool.not_eq_true, hmf]
      exact fun h => h1 h.1
    subst hRf
    clear hPN hmf hR h1 hn hl hp hq
    generalize partsN n = P at *
    go_wp2
    go_ret
    exact ⟨rfl, HQ.out.bel⟩

/-- What the code asks of a frame that fits. -/
theorem older_iff {n : Nat} {g : Gl} {f : Fr} (hg : WG n g) (hf : FitF f) : decide (cmpV f.vinc f.vseq g.inc g.seq < 0) = olderB g f := by
  simp only [cmpV_lt hf.vs hg.seq]
  unfold olderB
  cases h : g.is
  · have := hg.none h
    subst this
    simp [g0, numV]
  · simp
theorem newer_iff {n : Nat} {g : Gl} {f : Fr} (hg : WG n g) (hf : FitF f) (h : g.is = true) : decide (0 < cmpV f.vinc f.vseq g.inc g.seq) = newerB g f := by
  simp only [cmpV_gt hf.vs hg.seq]
  unfold newerB
  rw [h]
  simp
theorem twice_eq {n : Nat} {g : Gl} {f : Fr} (hg : WG n g) (hf : FitF f) (h : cmpV f.vinc f.vseq g.inc g.seq = 0) : (maskB g.came &&& 2 ^ f.part != 0) = twiceB n g f := by
  rw [mask_and]
  unfold twiceB freshG
  cases hi : g.is
  · have := hg.none hi
    subst this
    have : newerB g0 f = true := rfl
    rw [if_pos this, getD_rep]
    simp [g0]
  · have : newerB g f = false := by
      rw [← newer_iff hg hf hi, h]; rfl
    rw [this]
    rfl
theorem twice_no {n : Nat} {g : Gl} {f : Fr} (hg : WG n g) (hf : FitF f) (h : cmpV f.vinc f.vseq g.inc g.seq ≠ 0) (ho : olderB g f = false) : twiceB n g f = false := by
  have hn : newerB g f = true := by
    cases hi : g.is
    · unfold newerB; rw [hi]; rfl
    · rw [← newer_iff hg hf hi, decide_eq_true_iff]
      rw [← older_iff hg hf, decide_eq_false_iff_not] at ho
      omega
  unfold twiceB freshG
  rw [if_pos hn, getD_rep]
  simp

attribute [local go_sem ↓] exec_ldF
set_option maxRecDepth 100000 in
set_option maxHeartbeats 4000000 in
theorem cRefuse (b n : Nat) (g : Gl) (f : Fr) (w : World) (hg : GAt w b n g) (hw : WG n g) (hn : 1 ≤ n ∧ n ≤ 64) (hf : FitF f) (hl : f.bytes.length ≤ maxLen) :
    Calls Try.prog 37 #[.pointer (some ⟨b, 0, none⟩), .agg (frA f)] w (Tells (.int .i64 (errB n g f : Nat)) w) := by
  have HP := Lib.hid (Bx.new hg f)
  have c00 := HP.out.gl.c0
  have HFi := Lib.hid (fun W (h : GAt W b n g) => cFits b n g f W h hn hf hl)
  have HCo := Lib.hid (fun W => cCompare f.vinc f.vseq g.inc g.seq W)
  obtain ⟨E, hE⟩ : ∃ E : Nat, E = errB n g f := ⟨_, rfl⟩
  rw [← hE]
  unfold errB at hE
  have hold := older_iff (n := n) hw hf
  have htw := twice_eq (n := n) hw hf
  have hno := twice_no (n := n) hw hf
  have hm : maskB g.came ≤ 15 := by
    have h1 := mask_lt g.came
    have h2 : g.came.length ≤ 4 := by
      cases hi : g.is
      · rw [hw.none hi]; simp [g0]
      · rw [hw.len hi]; exact (pN_bd hn.1 hn.2).2
    have h3 : 2 ^ g.came.length ≤ 2 ^ 4 := Nat.pow_le_pow_right (by omega) h2
    omega
  have hld := HP.out.box.ld
  have y0 := frA_0 f
  by_cases hk : f.kind = 4
  · rw [if_pos hk] at hE
    have e1 : (f.kind != 4) = false := by simp [hk]
    by_cases hfit : fitsB n f = true
    · rw [if_pos hfit] at hE
      have hpt : f.part ≤ 3 := by
        have := (fits_iff.1 hfit).2.1
        have := (pN_bd hn.1 hn.2).2
        omega
      have HBi := Lib.hid (fun W => cBit f W hpt)
      have hand : bits .and .u8 ((maskB g.came : Nat) : Int) ((2 ^ f.part : Nat) : Int) = ((maskB g.came &&& 2 ^ f.part : Nat) : Int) := by
        refine u8_and_nat _ _ (by omega) ?_
        have : 2 ^ f.part ≤ 2 ^ 3 := Nat.pow_le_pow_right (by omega) hpt
        omega
      rw [hfit] at HFi
      by_cases ho : olderB g f = true
      · rw [if_pos ho] at hE
        rw [ho] at hold
        subst hE
        clear hg hw hf htw hno hm hk hfit ho hpt hand HBi hn hl
        generalize cmpV f.vinc f.vseq g.inc g.seq = V at *
        go_enter Try.func37, Try.ntmps37
        go_wp2_with fail
        refine world_cut (G := fun W => Calls _ _ _ W _) (fun W => Bx w W w.heap.size b n g f) (by exact HP.out) ?_
        rintro W hP
        have HQ := Lib.hid hP
        clear HP hP c00 hld y0
        generalize w.heap.size = B at *
        refine (HFi.out W HQ.out.gl).mono ?_
        rintro e w1 ⟨rfl, hb1⟩
        have HQ1 := Lib.hid (HQ.out.next hb1)
        clear hb1 HQ HFi
        have hP1 := HQ1.out.drew
        have c1 := hP1.gl.c1
        have c2 := hP1.gl.c2
        have x14 := hP1.box.at 14 rfl
        have x15 := hP1.box.at 15 rfl
        clear hP1
        go_wp2
        go_region_held3 (fun W' => W'.cell? ⟨B, 14, none⟩ = some (.int .u16 f.vinc) ∧ W'.cell? ⟨B, 15, none⟩ = some (.int .u32 f.vseq) ∧ W'.cell? ⟨b, 1, none⟩ = some (.int .u16 g.inc) ∧ W'.cell? ⟨b, 2, none⟩ = some (.int .u32 g.seq)) (first | exact ⟨x14, x15, c1, c2⟩ | exact ⟨hP1.box.at 14 rfl, hP1.box.at 15 rfl, hP1.gl.c1, hP1.gl.c2⟩)
          ((go_at_call 38; (with_reducible refine (HCo.out _).mono ?_); rintro e w2 ⟨rfl, hb2⟩; have hP1 := HQ1.out.drew.next hb2; clear hb2))
        go_wp2
        go_ret
        exact ⟨rfl, hP1.bel⟩
      · have ho' := eq_false_of_ne_true ho
        rw [if_neg ho] at hE
        rw [ho'] at hold
        by_cases hz : cmpV f.vinc f.vseq g.inc g.seq = 0
        · have htw := htw hz
          rw [← htw] at hE
          have e2 : (cmpV f.vinc f.vseq g.inc g.seq == 0) = true := by simp [hz]
          obtain ⟨T, hT⟩ : ∃ T : Nat, T = 2 ^ f.part := ⟨_, rfl⟩
          rw [← hT] at HBi hand hE
          obtain ⟨Z, hZ⟩ : ∃ Z : Nat, Z = maskB g.came &&& T := ⟨_, rfl⟩
          rw [← hZ] at hE hand
          have e3 : (((Z : Nat) : Int) != 0) = (Z != 0) := by
            rw [Bool.eq_iff_iff, bne_iff_ne, bne_iff_ne]; omega
          obtain ⟨z, hz2⟩ : ∃ z : Bool, z = (Z != 0) := ⟨_, rfl⟩
          rw [← hz2] at hE e3
          have HE := Lib.hid hE
          clear hE hm hg hw hf htw hno hk hfit ho ho' hpt hn hl hT hZ hz hz2
          have HM := Lib.hid (fun W (h : GAt W b n g) => h.c3)
          generalize maskB g.came = M at *
          generalize cmpV f.vinc f.vseq g.inc g.seq = V at *
          go_enter Try.func37, Try.ntmps37
          go_wp2_with fail
          refine world_cut (G := fun W => Calls _ _ _ W _) (fun W => Bx w W w.heap.size b n g f) (by exact HP.out) ?_
          rintro W hP
          have HQ := Lib.hid hP
          clear HP hP c00 hld y0
          generalize w.heap.size = B at *
          refine (HFi.out W HQ.out.gl).mono ?_
          rintro e w1 ⟨rfl, hb1⟩
          have HQ1 := Lib.hid (HQ.out.next hb1)
          clear hb1 HQ HFi
          have hP1 := HQ1.out.drew
          have c1 := hP1.gl.c1
          have c2 := hP1.gl.c2
          have x14 := hP1.box.at 14 rfl
          have x15 := hP1.box.at 15 rfl
          clear hP1
          go_wp2
          go_region_held3 (fun W' => W'.cell? ⟨B, 14, none⟩ = some (.int .u16 f.vinc) ∧ W'.cell? ⟨B, 15, none⟩ = some (.int .u32 f.vseq) ∧ W'.cell? ⟨b, 1, none⟩ = some (.int .u16 g.inc) ∧ W'.cell? ⟨b, 2, none⟩ = some (.int .u32 g.seq)) (first | exact ⟨x14, x15, c1, c2⟩ | exact ⟨hP1.box.at 14 rfl, hP1.box.at 15 rfl, hP1.gl.c1, hP1.gl.c2⟩)
            ((go_at_call 38; (with_reducible refine (HCo.out _).mono ?_); rintro e w2 ⟨rfl, hb2⟩; have hP1 := HQ1.out.drew.next hb2; clear hb2))
          have HQ2 := Lib.hid hP1
          have hP2 := hP1.drew
          have c3 := HM.out _ hP2.gl
          have hld := hP2.box.ld
          clear hP1 x14 x15 c1 c2 HCo
          go_wp2
          go_region_held3 (fun W' => W'.cell? ⟨b, 3, none⟩ = some (.int .u8 M) ∧ ldF (.pointer (some ⟨B, 0, none⟩)) W' = .ok (.value (.agg (frA f))) W') (first | exact ⟨c3, hld⟩ | exact ⟨HM.out _ hP2.gl, hP2.box.ld⟩)
            ((go_at_call 41; (with_reducible refine (HBi.out _).mono ?_); rintro e w3 ⟨rfl, hb3⟩; have hP2 := HQ2.out.drew.next hb3; clear hb3))
          cases z
          all_goals
            go_wp2
            go_ret
            exact ⟨by rw [HE.out]; rfl, hP2.bel⟩
        · have htw := hno hz ho'
          rw [htw] at hE
          have e2 : (cmpV f.vinc f.vseq g.inc g.seq == 0) = false := by simp [hz]
          obtain rfl : E = 0 := by simpa using hE
          clear hg hw hf htw hno hk hfit ho ho' hpt hn hl hz hE HBi hand hm
          generalize cmpV f.vinc f.vseq g.inc g.seq = V at *
          go_enter Try.func37, Try.ntmps37
          go_wp2_with fail
          refine world_cut (G := fun W => Calls _ _ _ W _) (fun W => Bx w W w.heap.size b n g f) (by exact HP.out) ?_
          rintro W hP
          have HQ := Lib.hid hP
          clear HP hP c00 hld y0
          generalize w.heap.size = B at *
          refine (HFi.out W HQ.out.gl).mono ?_
          rintro e w1 ⟨rfl, hb1⟩
          have HQ1 := Lib.hid (HQ.out.next hb1)
          clear hb1 HQ HFi
          have hP1 := HQ1.out.drew
          have c1 := hP1.gl.c1
          have c2 := hP1.gl.c2
          have x14 := hP1.box.at 14 rfl
          have x15 := hP1.box.at 15 rfl
          clear hP1
          go_wp2
          go_region_held3 (fun W' => W'.cell? ⟨B, 14, none⟩ = some (.int .u16 f.vinc) ∧ W'.cell? ⟨B, 15, none⟩ = some (.int .u32 f.vseq) ∧ W'.cell? ⟨b, 1, none⟩ = some (.int .u16 g.inc) ∧ W'.cell? ⟨b, 2, none⟩ = some (.int .u32 g.seq)) (first | exact ⟨x14, x15, c1, c2⟩ | exact ⟨hP1.box.at 14 rfl, hP1.box.at 15 rfl, hP1.gl.c1, hP1.gl.c2⟩)
            ((go_at_call 38; (with_reducible refine (HCo.out _).mono ?_); rintro e w2 ⟨rfl, hb2⟩; have hP1 := HQ1.out.drew.next hb2; clear hb2))
          go_wp2
          go_quiet (fail)
          go_wp2
          go_ret
          exact ⟨rfl, hP1.bel.trans (below_drewN _ _ _)⟩
    · have hfit' := eq_false_of_ne_true hfit
      rw [if_neg hfit] at hE
      rw [hfit'] at HFi
      subst hE
      clear hg hw hf htw hno hm hk hfit hfit' hold hn hl
      go_enter Try.func37, Try.ntmps37
      go_wp2_with fail
      refine world_cut (G := fun W => Calls _ _ _ W _) (fun W => Bx w W w.heap.size b n g f) (by exact HP.out) ?_
      rintro W hP
      have HQ := Lib.hid hP
      clear HP hP c00 hld y0
      generalize w.heap.size = B at *
      refine (HFi.out W HQ.out.gl).mono ?_
      rintro e w1 ⟨rfl, hb1⟩
      have HQ1 := Lib.hid (HQ.out.next hb1)
      clear hb1 HQ HFi
      go_wp2
      go_ret
      exact ⟨rfl, HQ1.out.bel⟩
  · rw [if_neg hk] at hE
    have e1 : (f.kind != 4) = true := by simp [hk]
    subst hE
    clear hg hw hf htw hno hm hk hold hn hl
    go_enter Try.func37, Try.ntmps37
    go_wp2
    go_ret
    exact ⟨rfl, HP.out.bel⟩
end Go.Proofs.Ytbfjimbffpkkhaa.Pa
