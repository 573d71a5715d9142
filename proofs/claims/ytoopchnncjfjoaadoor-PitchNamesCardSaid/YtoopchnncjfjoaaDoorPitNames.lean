/-
  PitchNames holds: the law's walk.
-/
import Derived.Test.YtoopchnncjfjoaaDoorPitNm
namespace Go.Proofs.YtoopchnncjfjoaaDoor
open Go.RowKit

def OuterRel (n : Int) (w : World) (l i : Value) (wr : World) : Prop := ∃ (j : Nat) (ln : Int), j ≤ 77 ∧ Hid (ln = (j : Int) - 7) ∧ i = .int .i64 ln ∧ -7 ≤ ln ∧ ln ≤ 70 ∧ wr.ownsRow w.heap.size 23 3 l (items n j).length (rowOf (items n j)) ∧ Below w.heap.size w wr
def InnerRel (n : Int) (j : Nat) (w : World) (l i : Value) (wr : World) : Prop := ∃ al : Int, i = .int .i64 al ∧ -2 ≤ al ∧ al ≤ 3 ∧ wr.ownsRow w.heap.size 23 3 l (items n j ++ partJ n j al).length (rowOf (items n j ++ partJ n j al)) ∧ Below w.heap.size w wr

set_option maxRecDepth 100000 in
set_option maxHeartbeats 8000000 in
theorem names_w (r : Int) (w : World) (hR : Ready w) (hr : Pit.I64 r) (n : Int) (HK : Hid (pickS r 140 = n)) (n0 : 0 ≤ n) (n1 : n < 140) :
    Calls Tryd.prog 10 #[.int .i64 r] w fun e w' => e = .returned (.bool true) ∧ Below w.heap.size w w' := by
  obtain ⟨i0, hi, hz0, hz1, hz2⟩ := info_parts infoP
  have hB0 : Below w.heap.size w w := Below.refl _ _
  go_enter Tryd.func10, Tryd.ntmps10
  go_wp2_with fail
  have hR' := hR.below hB0
  refine (awake_any _ hR').mono ?_
  rintro e w1 ⟨rfl, hb1⟩
  clear hR'
  have hs1 := hb1
  have hB1 := below_two hB0 hs1
  clear hB0 hs1
  go_wp2_with fail
  refine (pick_any _ _ _ hr (by decide) (by decide)).mono ?_
  rintro e wx ⟨rfl, rfl⟩
  rw [HK.out]
  go_wp2_with fail
  go_loopw [5, 6] (fun l i wr => OuterRel n w l i wr) (fun _ i _ => (70 - intOf i).toNat)
  case atStart => exact ⟨0, -7, by omega, Lib.hid (by omega), rfl, by omega, by omega, World.ownsRow_nil _ _ _ _, hB1⟩
  case round =>
    obtain ⟨j, ln, hj, HLn, rfl, l0, l1, hown, hB⟩ := hrel
    by_cases hl : ln < 70
    · obtain ⟨J, hJ⟩ : ∃ J : Int, ln + 7 = J := ⟨_, rfl⟩
      have hJ0 : 0 ≤ J := by omega
      have hJ1 : J ≤ 76 := by omega
      obtain ⟨S, hS⟩ : ∃ S : Int, J % 7 = S := ⟨_, rfl⟩
      obtain ⟨D, hD⟩ : ∃ D : Int, J / 7 = D := ⟨_, rfl⟩
      obtain ⟨O, hO⟩ : ∃ O : Int, D - 1 = O := ⟨_, rfl⟩
      have hS2 : J.tmod 7 = S := by rw [Int.tmod_eq_emod_of_nonneg hJ0]; exact hS
      have hD2 : J.tdiv 7 = D := by rw [Int.tdiv_eq_ediv_of_nonneg hJ0]; exact hD
      have hO2 : D + -1 = O := by omega
      have hD0 : 0 ≤ D := by omega
      have hD1 : D ≤ 10 := by omega
      have HS : Hid (lnS j = S) := Lib.hid (by have := HLn.out; unfold lnS; omega)
      have HO : Hid (lnO j = O) := Lib.hid (by have := HLn.out; unfold lnO; omega)
      have HLi : Hid (Pit.lin S O = ln) := Lib.hid (by rw [Pit.lin_eq]; omega)
      have hown0 : wr.ownsRow w.heap.size 23 3 u5 (items n j ++ partJ n j (-2)).length (rowOf (items n j ++ partJ n j (-2))) := by rw [partJ_start, List.append_nil]; exact hown
      clear hown
      go_wp2_with fail
      go_loopw [5, 7] (fun l i wr => InnerRel n j w l i wr) (fun _ i _ => (3 - intOf i).toNat)
      case atStart => exact ⟨-2, rfl, by omega, by omega, hown0, hB⟩
      case round =>
        obtain ⟨al, rfl, b0, b1, hown, hB⟩ := hrel
        clear hown0
        by_cases ha : al ≤ 2
        · have hlen := items_length n j
          have hlen2 := partJ_length n j al
          have e0 : (wr.alloc (.cells #[.int .i64 S, .int .i64 al, .int .i64 O] 23)).cell? ⟨wr.heap.size, 0, none⟩ = some (.int .i64 S) := by go_simp
          have e1 : (wr.alloc (.cells #[.int .i64 S, .int .i64 al, .int .i64 O] 23)).cell? ⟨wr.heap.size, 1, none⟩ = some (.int .i64 al) := by go_simp
          have e2 : (wr.alloc (.cells #[.int .i64 S, .int .i64 al, .int .i64 O] 23)).cell? ⟨wr.heap.size, 2, none⟩ = some (.int .i64 O) := by go_simp
          have hB2 := alloc_below (o := .cells #[.int .i64 S, .int .i64 al, .int .i64 O] 23) hB
          have hown2 := hown.alloc (.cells #[.int .i64 S, .int .i64 al, .int .i64 O] 23)
          have HV := Lib.hid hown2
          have HL1 := Lib.hid hlen
          have HL2 := Lib.hid hlen2
          clear hown hown2 hB hlen hlen2
          cases hrt : Pit.right S al O with
          | false =>
            have HRt := Lib.hid hrt
            have HPa : Hid (partJ n j (al + 1) = partJ n j al) := Lib.hid (partJ_miss (Or.inl (by rw [HS.out, HO.out]; exact hrt)))
            clear hrt
            go_wp2_with fail
            generalize wr.alloc (.cells #[.int .i64 S, .int .i64 al, .int .i64 O] 23) = w2 at *
            refine (numberE _ _ _ _ (hR.below hB2)).mono ?_
            rintro e w3 ⟨rfl, hb⟩
            rw [HRt.out]
            simp only [onlyR, errP, if_false, Bool.false_eq_true]
            replace e0 := cell_later hb e0
            replace e1 := cell_later hb e1
            replace e2 := cell_later hb e2
            have hB3 := below_two hB2 hb
            replace HV := Lib.hid (own_later HV.out hb)
            clear hb hB2
            go_wp2_with fail
            refine (lineE _ _ _ _ (hR.below hB3)).mono ?_
            rintro e w4 ⟨rfl, hb⟩
            rw [HRt.out]
            simp only [onlyR, errP, if_false, Bool.false_eq_true]
            replace e0 := cell_later hb e0
            replace e1 := cell_later hb e1
            replace e2 := cell_later hb e2
            have hB4 := below_two hB3 hb
            replace HV := Lib.hid (own_later HV.out hb)
            clear hb hB3
            have HB4 := Lib.hid hB4
            clear hB4
            go_wp2
            refine ⟨⟨al + 1, by go_num, by omega, by omega, ?_, HB4.out⟩, by simp [intOf]; omega⟩
            rw [HPa.out]
            exact HV.out
          | true =>
            by_cases hnn : Pit.num S al O = n
            · have HRt := Lib.hid hrt
              have HNm := Lib.hid hnn
              have HPa : Hid (partJ n j (al + 1) = partJ n j al ++ [(S, al, O)]) := Lib.hid (by have := partJ_hit (n := n) (j := j) (al := al) (by rw [HS.out, HO.out]; exact hrt) (by rw [HS.out, HO.out]; exact hnn); rw [HS.out, HO.out] at this; exact this)
              clear hrt hnn
              go_wp2_with fail
              generalize wr.alloc (.cells #[.int .i64 S, .int .i64 al, .int .i64 O] 23) = w2 at *
              refine (numberE _ _ _ _ (hR.below hB2)).mono ?_
              rintro e w3 ⟨rfl, hb⟩
              rw [HRt.out, HNm.out]
              simp only [onlyR, errP, if_true]
              replace e0 := cell_later hb e0
              replace e1 := cell_later hb e1
              replace e2 := cell_later hb e2
              have hB3 := below_two hB2 hb
              replace HV := Lib.hid (own_later HV.out hb)
              clear hb hB2
              go_wp2_with fail
              refine (lineE _ _ _ _ (hR.below hB3)).mono ?_
              rintro e w4 ⟨rfl, hb⟩
              rw [HRt.out, HLi.out]
              simp only [onlyR, errP, if_true]
              replace e0 := cell_later hb e0
              replace e1 := cell_later hb e1
              replace e2 := cell_later hb e2
              have hB4 := below_two hB3 hb
              replace HV := Lib.hid (own_later HV.out hb)
              clear hb hB3
              have hown4 := HV.out
              have hz4 := World.block_lt_of_cell? _ _ e0
              go_wp2_with (first
                | (at_builtin; refine wpList_append_own _ rfl _ _ 28 rfl w.heap.size 23 i0 (.agg #[.int .i64 0, .int .i64 0, .int .i64 0]) 3 24 Tryd.underlying28 hi hz0 hz1 hz2 rfl (by decide) _ _ _ rfl (hown4.alloc _) ⟨w4.heap.size, 0, none⟩ 1 1 [.int .i64 S, .int .i64 al, .int .i64 O] rfl rfl ?c1 ?c2 ?c3 ?c4 ?c5 ?_)
                | fail)
              case c2 => exact ⟨rfl, rfl, rfl⟩
              case c3 => have := HL1.out; have := HL2.out; unfold maxLen; omega
              case c4 => have := HL1.out; have := HL2.out; omega
              case c5 => have := hB4.size; simp; omega
              · intro v' w5 hown5 hgrow _
                have hB5 : Below w.heap.size w w5 := (alloc_below hB4).grown hgrow (alloc_below hB4).size (fun k hk => (hown4.lt k hk).1)
                have HV5 := Lib.hid hown5
                have HB5 := Lib.hid hB5
                clear hown5 hgrow hB5 hown4 hB4 HV
                go_wp2
                refine ⟨⟨al + 1, by go_num, by omega, by omega, ?_, HB5.out⟩, by simp [intOf]; omega⟩
                rw [HPa.out, ← List.append_assoc, rowOf_append (items n j ++ partJ n j al), List.length_append (bs := [(S, al, O)]), List.length_append]
                exact HV5.out
            · have HRt := Lib.hid hrt
              have HPa : Hid (partJ n j (al + 1) = partJ n j al) := Lib.hid (partJ_miss (Or.inr (by rw [HS.out, HO.out]; exact hnn)))
              obtain ⟨N, hN⟩ : ∃ N, Pit.num S al O = N := ⟨_, rfl⟩
              have HNm := Lib.hid hN
              have hNn : (N == n) = false := by rw [← hN]; simp [hnn]
              clear hrt hnn hN
              go_wp2_with fail
              generalize wr.alloc (.cells #[.int .i64 S, .int .i64 al, .int .i64 O] 23) = w2 at *
              refine (numberE _ _ _ _ (hR.below hB2)).mono ?_
              rintro e w3 ⟨rfl, hb⟩
              rw [HRt.out, HNm.out]
              simp only [onlyR, errP, if_true]
              replace e0 := cell_later hb e0
              replace e1 := cell_later hb e1
              replace e2 := cell_later hb e2
              have hB3 := below_two hB2 hb
              replace HV := Lib.hid (own_later HV.out hb)
              clear hb hB2
              go_wp2_with fail
              refine (lineE _ _ _ _ (hR.below hB3)).mono ?_
              rintro e w4 ⟨rfl, hb⟩
              rw [HRt.out, HLi.out]
              simp only [onlyR, errP, if_true]
              replace e0 := cell_later hb e0
              replace e1 := cell_later hb e1
              replace e2 := cell_later hb e2
              have hB4 := below_two hB3 hb
              replace HV := Lib.hid (own_later HV.out hb)
              clear hb hB3
              have HB4 := Lib.hid hB4
              clear hB4
              go_wp2
              refine ⟨⟨al + 1, by go_num, by omega, by omega, ?_, HB4.out⟩, by simp [intOf]; omega⟩
              rw [HPa.out]
              exact HV.out
        · obtain rfl : al = 3 := by omega
          have HV := Lib.hid hown
          have HB := Lib.hid hB
          clear hown hB
          go_wp2
          refine ⟨⟨j + 1, ln + 1, by have := HLn.out; omega, Lib.hid (by have := HLn.out; omega), by go_num, by omega, by omega, ?_, HB.out⟩, by simp [intOf]; omega⟩
          show wr.ownsRow _ _ _ _ (items n j ++ oneJ n j).length (rowOf (items n j ++ oneJ n j))
          rw [← partJ_end]
          exact HV.out
    · obtain rfl : ln = 70 := by omega
      obtain rfl : j = 77 := by have := HLn.out; omega
      clear HLn l0 l1 hj
      clear HK
      have hgood := good_at n0 n1
      unfold goodN at hgood
      rw [Bool.and_eq_true] at hgood
      obtain ⟨hri, hlen⟩ := hgood
      generalize items n 77 = L at *
      by_cases hn : 127 < n
      · rw [if_pos hn] at hlen
        obtain rfl : L = [] := by simpa using hlen
        clear hri hlen
        have hown' : wr.ownsRow w.heap.size 23 3 u5 0 [] := hown
        obtain ⟨_, ⟨rfl, _⟩ | ⟨gg, cap, _, rfl, _⟩⟩ := hown'
        · have HB := Lib.hid hB
          clear hown hB
          go_wp2_with fail
          go_loopw [13] (fun i wr' => (i = .int .i64 1) ∧ Below w.heap.size w wr') (fun i _ => (1 - intOf i).toNat)
          case atStart => exact ⟨rfl, HB.out⟩
          case round =>
            clear HB
            obtain ⟨hidx, hB⟩ := hrel
            subst hidx
            go_wp2
            go_ret
            exact ⟨rfl, hB⟩
        · have HB := Lib.hid hB
          clear hown hB
          go_wp2_with fail
          go_loopw [13] (fun i wr' => (i = .int .i64 1) ∧ Below w.heap.size w wr') (fun i _ => (1 - intOf i).toNat)
          case atStart => exact ⟨rfl, HB.out⟩
          case round =>
            clear HB
            obtain ⟨hidx, hB⟩ := hrel
            subst hidx
            go_wp2
            go_ret
            exact ⟨rfl, hB⟩
      · rw [if_neg hn] at hlen
        rw [decide_eq_true_iff] at hlen
        rcases L with _ | ⟨⟨s0, a0, o0⟩, _ | ⟨⟨s1, a1, o1⟩, _ | ⟨⟨s2, a2, o2⟩, _ | ⟨x3, L⟩⟩⟩⟩
        · simp at hlen
        · clear hlen
          have hown' : wr.ownsRow w.heap.size 23 3 u5 1 [.int .i64 s0, .int .i64 a0, .int .i64 o0] := hown
          clear hown
          have hown := hown'
          obtain ⟨_, ⟨rfl, h0⟩ | ⟨gg, cap, _, rfl, _⟩⟩ := hown'
          · cases h0
          · clear hri
            have d0 : wr.cell? ⟨gg, 0, none⟩ = some (.int .i64 s0) := hown.cellAt 0 (by decide)
            have d1 : wr.cell? ⟨gg, 1, none⟩ = some (.int .i64 a0) := hown.cellAt 1 (by decide)
            have d2 : wr.cell? ⟨gg, 2, none⟩ = some (.int .i64 o0) := hown.cellAt 2 (by decide)
            have HB := Lib.hid hB
            clear hown hB
            go_wp2_with fail
            go_loopw [13] (fun i wr' => (i = .int .i64 1) ∧ wr'.cell? ⟨gg, 0, none⟩ = some (.int .i64 s0) ∧ wr'.cell? ⟨gg, 1, none⟩ = some (.int .i64 a0) ∧ wr'.cell? ⟨gg, 2, none⟩ = some (.int .i64 o0) ∧ Below w.heap.size w wr') (fun i _ => (1 - intOf i).toNat)
            case atStart => exact ⟨rfl, d0, d1, d2, HB.out⟩
            case round =>
              clear d0 d1 d2 HB
              obtain ⟨hidx, d0, d1, d2, hB⟩ := hrel
              subst hidx
              go_wp2
              go_ret
              exact ⟨rfl, hB⟩
        · clear hlen
          have hown' : wr.ownsRow w.heap.size 23 3 u5 2 [.int .i64 s0, .int .i64 a0, .int .i64 o0, .int .i64 s1, .int .i64 a1, .int .i64 o1] := hown
          clear hown
          have hown := hown'
          obtain ⟨_, ⟨rfl, h0⟩ | ⟨gg, cap, _, rfl, _⟩⟩ := hown'
          · cases h0
          · have d0 : wr.cell? ⟨gg, 0, none⟩ = some (.int .i64 s0) := hown.cellAt 0 (by decide)
            have d1 : wr.cell? ⟨gg, 1, none⟩ = some (.int .i64 a0) := hown.cellAt 1 (by decide)
            have d2 : wr.cell? ⟨gg, 2, none⟩ = some (.int .i64 o0) := hown.cellAt 2 (by decide)
            have d3 : wr.cell? ⟨gg, 3, none⟩ = some (.int .i64 s1) := hown.cellAt 3 (by decide)
            have d4 : wr.cell? ⟨gg, 4, none⟩ = some (.int .i64 a1) := hown.cellAt 4 (by decide)
            have d5 : wr.cell? ⟨gg, 5, none⟩ = some (.int .i64 o1) := hown.cellAt 5 (by decide)
            have HC1 : Hid (Pit.cmpP (Pit.right s0 a0 o0 && Pit.right s1 a1 o1) s0 a0 o0 s1 a1 o1 = -1) := Lib.hid (by simp only [rises, Bool.and_eq_true, decide_eq_true_eq] at hri; exact hri.1)
            clear hri
            have HB := Lib.hid hB
            clear hown hB
            go_wp2_with fail
            go_loopw [13] (fun i wr' => (i = .int .i64 1 ∨ i = .int .i64 2) ∧ wr'.cell? ⟨gg, 0, none⟩ = some (.int .i64 s0) ∧ wr'.cell? ⟨gg, 1, none⟩ = some (.int .i64 a0) ∧ wr'.cell? ⟨gg, 2, none⟩ = some (.int .i64 o0) ∧ wr'.cell? ⟨gg, 3, none⟩ = some (.int .i64 s1) ∧ wr'.cell? ⟨gg, 4, none⟩ = some (.int .i64 a1) ∧ wr'.cell? ⟨gg, 5, none⟩ = some (.int .i64 o1) ∧ Below w.heap.size w wr') (fun i _ => (2 - intOf i).toNat)
            case atStart => exact ⟨Or.inl rfl, d0, d1, d2, d3, d4, d5, HB.out⟩
            case round =>
              clear d0 d1 d2 d3 d4 d5 HB
              obtain ⟨hidx, d0, d1, d2, d3, d4, d5, hB⟩ := hrel
              rcases hidx with rfl | rfl
              · go_wp2_with fail
                have QB : Hid (∀ d os, Below w.heap.size w (Go.Sort.grow (redrawn wr d) os)) := Lib.hid (fun d os => below_two hB (below_regrown wr d os))
                have g0 := fun d os => cell_regrown d0 d os
                have g1 := fun d os => cell_regrown d1 d os
                have g2 := fun d os => cell_regrown d2 d os
                have g3 := fun d os => cell_regrown d3 d os
                have g4 := fun d os => cell_regrown d4 d os
                have g5 := fun d os => cell_regrown d5 d os
                have q0 : Hid (∀ d os, Calls Tryd.prog 27 #[pt s0 a0 o0, pt s1 a1 o1] (Go.Sort.grow (redrawn wr d) os) fun e w'' => e = .returned (.int .i64 (-1)) ∧ ∃ p : Regrown, w'' = Go.Sort.grow (redrawn wr p.d) p.os) := Lib.hid (fun d os => Calls.regrown_of (by have h := compare_any s0 a0 o0 s1 a1 o1 _ (hR.below (QB.out d os)); rw [HC1.out] at h; exact h))
                have v0 : IntKind.i64.wrap (1 - 1) = 0 := by decide
                have v1 : IntKind.i64.wrap 0 = 0 := by decide
                have v2 : IntKind.i64.wrap (2 - 1) = 1 := by decide
                have v3 : IntKind.i64.wrap 1 = 1 := by decide
                have v4 := Tryd.sizeOf23
                refine wp_region_quiet_below (by kernel_rfl) (by kernel_rfl) ?_
                repeat (quiet_step (first | exact q0.out _ _))
                refine wpQuiet_nil ?_
                intro _ hw'
                obtain ⟨⟨dq, osq⟩, hw''⟩ := hw'
                subst hw''
                have HE := Lib.hid (And.intro (QB.out dq osq) trivial)
                have h0 := Lib.hid (g0 dq osq)
                have h1 := Lib.hid (g1 dq osq)
                have h2 := Lib.hid (g2 dq osq)
                have h3 := Lib.hid (g3 dq osq)
                have h4 := Lib.hid (g4 dq osq)
                have h5 := Lib.hid (g5 dq osq)
                clear d0 g0 d1 g1 d2 g2 d3 g3 d4 g4 d5 g5 q0 QB hB
                go_wp2
                exact ⟨⟨Or.inr (rfl), h0.out, h1.out, h2.out, h3.out, h4.out, h5.out, HE.out.1⟩, by simp [intOf]⟩
              · go_wp2
                go_ret
                exact ⟨rfl, hB⟩
        · clear hlen
          have hown' : wr.ownsRow w.heap.size 23 3 u5 3 [.int .i64 s0, .int .i64 a0, .int .i64 o0, .int .i64 s1, .int .i64 a1, .int .i64 o1, .int .i64 s2, .int .i64 a2, .int .i64 o2] := hown
          clear hown
          have hown := hown'
          obtain ⟨_, ⟨rfl, h0⟩ | ⟨gg, cap, _, rfl, _⟩⟩ := hown'
          · cases h0
          · have d0 : wr.cell? ⟨gg, 0, none⟩ = some (.int .i64 s0) := hown.cellAt 0 (by decide)
            have d1 : wr.cell? ⟨gg, 1, none⟩ = some (.int .i64 a0) := hown.cellAt 1 (by decide)
            have d2 : wr.cell? ⟨gg, 2, none⟩ = some (.int .i64 o0) := hown.cellAt 2 (by decide)
            have d3 : wr.cell? ⟨gg, 3, none⟩ = some (.int .i64 s1) := hown.cellAt 3 (by decide)
            have d4 : wr.cell? ⟨gg, 4, none⟩ = some (.int .i64 a1) := hown.cellAt 4 (by decide)
            have d5 : wr.cell? ⟨gg, 5, none⟩ = some (.int .i64 o1) := hown.cellAt 5 (by decide)
            have d6 : wr.cell? ⟨gg, 6, none⟩ = some (.int .i64 s2) := hown.cellAt 6 (by decide)
            have d7 : wr.cell? ⟨gg, 7, none⟩ = some (.int .i64 a2) := hown.cellAt 7 (by decide)
            have d8 : wr.cell? ⟨gg, 8, none⟩ = some (.int .i64 o2) := hown.cellAt 8 (by decide)
            have HC1 : Hid (Pit.cmpP (Pit.right s0 a0 o0 && Pit.right s1 a1 o1) s0 a0 o0 s1 a1 o1 = -1) := Lib.hid (by simp only [rises, Bool.and_eq_true, decide_eq_true_eq] at hri; exact hri.1)
            have HC2 : Hid (Pit.cmpP (Pit.right s1 a1 o1 && Pit.right s2 a2 o2) s1 a1 o1 s2 a2 o2 = -1) := Lib.hid (by simp only [rises, Bool.and_eq_true, decide_eq_true_eq] at hri; exact hri.2.1)
            clear hri
            have HB := Lib.hid hB
            clear hown hB
            go_wp2_with fail
            go_loopw [13] (fun i wr' => (i = .int .i64 1 ∨ i = .int .i64 2 ∨ i = .int .i64 3) ∧ wr'.cell? ⟨gg, 0, none⟩ = some (.int .i64 s0) ∧ wr'.cell? ⟨gg, 1, none⟩ = some (.int .i64 a0) ∧ wr'.cell? ⟨gg, 2, none⟩ = some (.int .i64 o0) ∧ wr'.cell? ⟨gg, 3, none⟩ = some (.int .i64 s1) ∧ wr'.cell? ⟨gg, 4, none⟩ = some (.int .i64 a1) ∧ wr'.cell? ⟨gg, 5, none⟩ = some (.int .i64 o1) ∧ wr'.cell? ⟨gg, 6, none⟩ = some (.int .i64 s2) ∧ wr'.cell? ⟨gg, 7, none⟩ = some (.int .i64 a2) ∧ wr'.cell? ⟨gg, 8, none⟩ = some (.int .i64 o2) ∧ Below w.heap.size w wr') (fun i _ => (3 - intOf i).toNat)
            case atStart => exact ⟨Or.inl rfl, d0, d1, d2, d3, d4, d5, d6, d7, d8, HB.out⟩
            case round =>
              clear d0 d1 d2 d3 d4 d5 d6 d7 d8 HB
              obtain ⟨hidx, d0, d1, d2, d3, d4, d5, d6, d7, d8, hB⟩ := hrel
              rcases hidx with rfl | rfl | rfl
              · go_wp2_with fail
                have QB : Hid (∀ d os, Below w.heap.size w (Go.Sort.grow (redrawn wr d) os)) := Lib.hid (fun d os => below_two hB (below_regrown wr d os))
                have g0 := fun d os => cell_regrown d0 d os
                have g1 := fun d os => cell_regrown d1 d os
                have g2 := fun d os => cell_regrown d2 d os
                have g3 := fun d os => cell_regrown d3 d os
                have g4 := fun d os => cell_regrown d4 d os
                have g5 := fun d os => cell_regrown d5 d os
                have g6 := fun d os => cell_regrown d6 d os
                have g7 := fun d os => cell_regrown d7 d os
                have g8 := fun d os => cell_regrown d8 d os
                have q0 : Hid (∀ d os, Calls Tryd.prog 27 #[pt s0 a0 o0, pt s1 a1 o1] (Go.Sort.grow (redrawn wr d) os) fun e w'' => e = .returned (.int .i64 (-1)) ∧ ∃ p : Regrown, w'' = Go.Sort.grow (redrawn wr p.d) p.os) := Lib.hid (fun d os => Calls.regrown_of (by have h := compare_any s0 a0 o0 s1 a1 o1 _ (hR.below (QB.out d os)); rw [HC1.out] at h; exact h))
                have v0 : IntKind.i64.wrap (1 - 1) = 0 := by decide
                have v1 : IntKind.i64.wrap 0 = 0 := by decide
                have v2 : IntKind.i64.wrap (2 - 1) = 1 := by decide
                have v3 : IntKind.i64.wrap 1 = 1 := by decide
                have v4 := Tryd.sizeOf23
                refine wp_region_quiet_below (by kernel_rfl) (by kernel_rfl) ?_
                repeat (quiet_step (first | exact q0.out _ _))
                refine wpQuiet_nil ?_
                intro _ hw'
                obtain ⟨⟨dq, osq⟩, hw''⟩ := hw'
                subst hw''
                have HE := Lib.hid (And.intro (QB.out dq osq) trivial)
                have h0 := Lib.hid (g0 dq osq)
                have h1 := Lib.hid (g1 dq osq)
                have h2 := Lib.hid (g2 dq osq)
                have h3 := Lib.hid (g3 dq osq)
                have h4 := Lib.hid (g4 dq osq)
                have h5 := Lib.hid (g5 dq osq)
                have h6 := Lib.hid (g6 dq osq)
                have h7 := Lib.hid (g7 dq osq)
                have h8 := Lib.hid (g8 dq osq)
                clear d0 g0 d1 g1 d2 g2 d3 g3 d4 g4 d5 g5 d6 g6 d7 g7 d8 g8 q0 QB hB
                go_wp2
                exact ⟨⟨Or.inr (Or.inl rfl), h0.out, h1.out, h2.out, h3.out, h4.out, h5.out, h6.out, h7.out, h8.out, HE.out.1⟩, by simp [intOf]⟩
              · go_wp2_with fail
                have QB : Hid (∀ d os, Below w.heap.size w (Go.Sort.grow (redrawn wr d) os)) := Lib.hid (fun d os => below_two hB (below_regrown wr d os))
                have g0 := fun d os => cell_regrown d0 d os
                have g1 := fun d os => cell_regrown d1 d os
                have g2 := fun d os => cell_regrown d2 d os
                have g3 := fun d os => cell_regrown d3 d os
                have g4 := fun d os => cell_regrown d4 d os
                have g5 := fun d os => cell_regrown d5 d os
                have g6 := fun d os => cell_regrown d6 d os
                have g7 := fun d os => cell_regrown d7 d os
                have g8 := fun d os => cell_regrown d8 d os
                have q0 : Hid (∀ d os, Calls Tryd.prog 27 #[pt s1 a1 o1, pt s2 a2 o2] (Go.Sort.grow (redrawn wr d) os) fun e w'' => e = .returned (.int .i64 (-1)) ∧ ∃ p : Regrown, w'' = Go.Sort.grow (redrawn wr p.d) p.os) := Lib.hid (fun d os => Calls.regrown_of (by have h := compare_any s1 a1 o1 s2 a2 o2 _ (hR.below (QB.out d os)); rw [HC2.out] at h; exact h))
                have v0 : IntKind.i64.wrap (1 - 1) = 0 := by decide
                have v1 : IntKind.i64.wrap 0 = 0 := by decide
                have v2 : IntKind.i64.wrap (2 - 1) = 1 := by decide
                have v3 : IntKind.i64.wrap 1 = 1 := by decide
                have v4 := Tryd.sizeOf23
                refine wp_region_quiet_below (by kernel_rfl) (by kernel_rfl) ?_
                repeat (quiet_step (first | exact q0.out _ _))
                refine wpQuiet_nil ?_
                intro _ hw'
                obtain ⟨⟨dq, osq⟩, hw''⟩ := hw'
                subst hw''
                have HE := Lib.hid (And.intro (QB.out dq osq) trivial)
                have h0 := Lib.hid (g0 dq osq)
                have h1 := Lib.hid (g1 dq osq)
                have h2 := Lib.hid (g2 dq osq)
                have h3 := Lib.hid (g3 dq osq)
                have h4 := Lib.hid (g4 dq osq)
                have h5 := Lib.hid (g5 dq osq)
                have h6 := Lib.hid (g6 dq osq)
                have h7 := Lib.hid (g7 dq osq)
                have h8 := Lib.hid (g8 dq osq)
                clear d0 g0 d1 g1 d2 g2 d3 g3 d4 g4 d5 g5 d6 g6 d7 g7 d8 g8 q0 QB hB
                go_wp2
                exact ⟨⟨Or.inr (Or.inr (rfl)), h0.out, h1.out, h2.out, h3.out, h4.out, h5.out, h6.out, h7.out, h8.out, HE.out.1⟩, by simp [intOf]⟩
              · go_wp2
                go_ret
                exact ⟨rfl, hB⟩
        · simp at hlen

theorem pitchNames_calls (r : Int) (hr : Pit.I64 r) (w : World) (hR : Ready w) : LawHolds 10 #[.int .i64 r] w := by
  obtain ⟨n0, n1⟩ := pickS_bounds r (n := 140) (by decide)
  exact names_w r w hR hr _ (Lib.hid rfl) n0 n1
end Go.Proofs.YtoopchnncjfjoaaDoor
