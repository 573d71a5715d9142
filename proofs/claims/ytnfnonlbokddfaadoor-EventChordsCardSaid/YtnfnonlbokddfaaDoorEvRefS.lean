/-
  The contract of the reference's Same.
-/
import Derived.Test.YtnfnonlbokddfaaDoorEvG
namespace Go.Proofs.YtnfnonlbokddfaaDoor
open Go.RowKit
open Evt (P3 Ev)

set_option maxRecDepth 100000 in
set_option maxHeartbeats 8000000 in
theorem refSame_0 (x y : Ev) (vp vt vm up ut um : Value) (w : World) (h0 : EvR w vp vt vm x) (h1 : EvR w up ut um y) (f0 : (x.k != y.k) = true) :
    Calls Tryd.prog 16 #[evv x vp vt vm, evv y up ut um] w fun ed w' => ed = .returned (.bool false) ∧ Below w.heap.size w w' := by
  have hgV := guardV
  have hnV := neq_vl
  have hgP := guardP
  have hnP := neq_pt
  obtain ⟨k, ps, ts, b, d, n, e0, ms, str⟩ := x
  have HX0 := Lib.hid h0
  obtain ⟨Pps, Cps, e1, _⟩ := sl_shape h0.ps
  obtain ⟨Pts, Cts, e2, _⟩ := sl_shape h0.ts
  obtain ⟨Pms, Cms, e3, _⟩ := sl_shape h0.ms
  dsimp only at e1 e2 e3
  subst e1 e2 e3
  clear h0
  obtain ⟨k1, ps1, ts1, b1, d1, n1, e01, ms1, str1⟩ := y
  have HX1 := Lib.hid h1
  obtain ⟨Pps1, Cps1, e1, _⟩ := sl_shape h1.ps
  obtain ⟨Pts1, Cts1, e2, _⟩ := sl_shape h1.ts
  obtain ⟨Pms1, Cms1, e3, _⟩ := sl_shape h1.ms
  dsimp only at e1 e2 e3
  subst e1 e2 e3
  clear h1
  dsimp only at f0
  have hB0 : Below w.heap.size w w := Below.refl _ _
  go_enter Tryd.func16, Tryd.ntmps16
  go_wp2
  go_ret
  exact ⟨rfl, ((hB0.alloc hB0.size (.cells #[.int .i64 k, .slice Pps ps.length Cps, .slice Pts ts.length Cts, .int .i64 b, .int .i64 d, .int .i64 n, .int .i64 e0, .slice Pms ms.length Cms, .string str] 28)).alloc (hB0.alloc hB0.size (.cells #[.int .i64 k, .slice Pps ps.length Cps, .slice Pts ts.length Cts, .int .i64 b, .int .i64 d, .int .i64 n, .int .i64 e0, .slice Pms ms.length Cms, .string str] 28)).size (.cells #[.int .i64 k1, .slice Pps1 ps1.length Cps1, .slice Pts1 ts1.length Cts1, .int .i64 b1, .int .i64 d1, .int .i64 n1, .int .i64 e01, .slice Pms1 ms1.length Cms1, .string str1] 28))⟩

set_option maxRecDepth 100000 in
set_option maxHeartbeats 8000000 in
theorem refSame_1 (x y : Ev) (vp vt vm up ut um : Value) (w : World) (h0 : EvR w vp vt vm x) (h1 : EvR w up ut um y) (f0 : (x.k != y.k) = false) (f1 : eqV x.b x.d x.n x.e y.b y.d y.n y.e = false) :
    Calls Tryd.prog 16 #[evv x vp vt vm, evv y up ut um] w fun ed w' => ed = .returned (.bool false) ∧ Below w.heap.size w w' := by
  have hgV := guardV
  have hnV := neq_vl
  have hgP := guardP
  have hnP := neq_pt
  obtain ⟨k, ps, ts, b, d, n, e0, ms, str⟩ := x
  have HX0 := Lib.hid h0
  obtain ⟨Pps, Cps, e1, _⟩ := sl_shape h0.ps
  obtain ⟨Pts, Cts, e2, _⟩ := sl_shape h0.ts
  obtain ⟨Pms, Cms, e3, _⟩ := sl_shape h0.ms
  dsimp only at e1 e2 e3
  subst e1 e2 e3
  clear h0
  obtain ⟨k1, ps1, ts1, b1, d1, n1, e01, ms1, str1⟩ := y
  have HX1 := Lib.hid h1
  obtain ⟨Pps1, Cps1, e1, _⟩ := sl_shape h1.ps
  obtain ⟨Pts1, Cts1, e2, _⟩ := sl_shape h1.ts
  obtain ⟨Pms1, Cms1, e3, _⟩ := sl_shape h1.ms
  dsimp only at e1 e2 e3
  subst e1 e2 e3
  clear h1
  dsimp only at f0 f1
  have hB0 : Below w.heap.size w w := Below.refl _ _
  go_enter Tryd.func16, Tryd.ntmps16
  go_wp2
  go_ret
  exact ⟨rfl, ((hB0.alloc hB0.size (.cells #[.int .i64 k, .slice Pps ps.length Cps, .slice Pts ts.length Cts, .int .i64 b, .int .i64 d, .int .i64 n, .int .i64 e0, .slice Pms ms.length Cms, .string str] 28)).alloc (hB0.alloc hB0.size (.cells #[.int .i64 k, .slice Pps ps.length Cps, .slice Pts ts.length Cts, .int .i64 b, .int .i64 d, .int .i64 n, .int .i64 e0, .slice Pms ms.length Cms, .string str] 28)).size (.cells #[.int .i64 k1, .slice Pps1 ps1.length Cps1, .slice Pts1 ts1.length Cts1, .int .i64 b1, .int .i64 d1, .int .i64 n1, .int .i64 e01, .slice Pms1 ms1.length Cms1, .string str1] 28))⟩

set_option maxRecDepth 100000 in
set_option maxHeartbeats 8000000 in
theorem refSame_2 (x y : Ev) (vp vt vm up ut um : Value) (w : World) (h0 : EvR w vp vt vm x) (h1 : EvR w up ut um y) (f0 : (x.k != y.k) = false) (f1 : eqV x.b x.d x.n x.e y.b y.d y.n y.e = true) (f2 : (x.s.toList == y.s.toList) = false) :
    Calls Tryd.prog 16 #[evv x vp vt vm, evv y up ut um] w fun ed w' => ed = .returned (.bool false) ∧ Below w.heap.size w w' := by
  have hgV := guardV
  have hnV := neq_vl
  have hgP := guardP
  have hnP := neq_pt
  obtain ⟨k, ps, ts, b, d, n, e0, ms, str⟩ := x
  have HX0 := Lib.hid h0
  obtain ⟨Pps, Cps, e1, _⟩ := sl_shape h0.ps
  obtain ⟨Pts, Cts, e2, _⟩ := sl_shape h0.ts
  obtain ⟨Pms, Cms, e3, _⟩ := sl_shape h0.ms
  dsimp only at e1 e2 e3
  subst e1 e2 e3
  clear h0
  obtain ⟨k1, ps1, ts1, b1, d1, n1, e01, ms1, str1⟩ := y
  have HX1 := Lib.hid h1
  obtain ⟨Pps1, Cps1, e1, _⟩ := sl_shape h1.ps
  obtain ⟨Pts1, Cts1, e2, _⟩ := sl_shape h1.ts
  obtain ⟨Pms1, Cms1, e3, _⟩ := sl_shape h1.ms
  dsimp only at e1 e2 e3
  subst e1 e2 e3
  clear h1
  dsimp only at f0 f1 f2
  have hB0 : Below w.heap.size w w := Below.refl _ _
  go_enter Tryd.func16, Tryd.ntmps16
  go_wp2
  go_ret
  exact ⟨rfl, ((hB0.alloc hB0.size (.cells #[.int .i64 k, .slice Pps ps.length Cps, .slice Pts ts.length Cts, .int .i64 b, .int .i64 d, .int .i64 n, .int .i64 e0, .slice Pms ms.length Cms, .string str] 28)).alloc (hB0.alloc hB0.size (.cells #[.int .i64 k, .slice Pps ps.length Cps, .slice Pts ts.length Cts, .int .i64 b, .int .i64 d, .int .i64 n, .int .i64 e0, .slice Pms ms.length Cms, .string str] 28)).size (.cells #[.int .i64 k1, .slice Pps1 ps1.length Cps1, .slice Pts1 ts1.length Cts1, .int .i64 b1, .int .i64 d1, .int .i64 n1, .int .i64 e01, .slice Pms1 ms1.length Cms1, .string str1] 28))⟩

set_option maxRecDepth 100000 in
set_option maxHeartbeats 8000000 in
theorem refSame_3 (x y : Ev) (vp vt vm up ut um : Value) (w : World) (h0 : EvR w vp vt vm x) (h1 : EvR w up ut um y) (f0 : (x.k != y.k) = false) (f1 : eqV x.b x.d x.n x.e y.b y.d y.n y.e = true) (f2 : (x.s.toList == y.s.toList) = true) (f3 : ((x.ps.length : Int) != (y.ps.length : Int)) = true) :
    Calls Tryd.prog 16 #[evv x vp vt vm, evv y up ut um] w fun ed w' => ed = .returned (.bool false) ∧ Below w.heap.size w w' := by
  have hgV := guardV
  have hnV := neq_vl
  have hgP := guardP
  have hnP := neq_pt
  obtain ⟨k, ps, ts, b, d, n, e0, ms, str⟩ := x
  have HX0 := Lib.hid h0
  obtain ⟨Pps, Cps, e1, _⟩ := sl_shape h0.ps
  obtain ⟨Pts, Cts, e2, _⟩ := sl_shape h0.ts
  obtain ⟨Pms, Cms, e3, _⟩ := sl_shape h0.ms
  dsimp only at e1 e2 e3
  subst e1 e2 e3
  clear h0
  obtain ⟨k1, ps1, ts1, b1, d1, n1, e01, ms1, str1⟩ := y
  have HX1 := Lib.hid h1
  obtain ⟨Pps1, Cps1, e1, _⟩ := sl_shape h1.ps
  obtain ⟨Pts1, Cts1, e2, _⟩ := sl_shape h1.ts
  obtain ⟨Pms1, Cms1, e3, _⟩ := sl_shape h1.ms
  dsimp only at e1 e2 e3
  subst e1 e2 e3
  clear h1
  dsimp only at f0 f1 f2 f3
  have hB0 : Below w.heap.size w w := Below.refl _ _
  go_enter Tryd.func16, Tryd.ntmps16
  go_wp2
  go_ret
  exact ⟨rfl, ((hB0.alloc hB0.size (.cells #[.int .i64 k, .slice Pps ps.length Cps, .slice Pts ts.length Cts, .int .i64 b, .int .i64 d, .int .i64 n, .int .i64 e0, .slice Pms ms.length Cms, .string str] 28)).alloc (hB0.alloc hB0.size (.cells #[.int .i64 k, .slice Pps ps.length Cps, .slice Pts ts.length Cts, .int .i64 b, .int .i64 d, .int .i64 n, .int .i64 e0, .slice Pms ms.length Cms, .string str] 28)).size (.cells #[.int .i64 k1, .slice Pps1 ps1.length Cps1, .slice Pts1 ts1.length Cts1, .int .i64 b1, .int .i64 d1, .int .i64 n1, .int .i64 e01, .slice Pms1 ms1.length Cms1, .string str1] 28))⟩

set_option maxRecDepth 100000 in
set_option maxHeartbeats 8000000 in
theorem refSame_4 (x y : Ev) (vp vt vm up ut um : Value) (w : World) (h0 : EvR w vp vt vm x) (h1 : EvR w up ut um y) (f0 : (x.k != y.k) = false) (f1 : eqV x.b x.d x.n x.e y.b y.d y.n y.e = true) (f2 : (x.s.toList == y.s.toList) = true) (f3 : ((x.ps.length : Int) != (y.ps.length : Int)) = false) (f4 : ((x.ts.length : Int) != (y.ts.length : Int)) = true) :
    Calls Tryd.prog 16 #[evv x vp vt vm, evv y up ut um] w fun ed w' => ed = .returned (.bool false) ∧ Below w.heap.size w w' := by
  have hgV := guardV
  have hnV := neq_vl
  have hgP := guardP
  have hnP := neq_pt
  obtain ⟨k, ps, ts, b, d, n, e0, ms, str⟩ := x
  have HX0 := Lib.hid h0
  obtain ⟨Pps, Cps, e1, _⟩ := sl_shape h0.ps
  obtain ⟨Pts, Cts, e2, _⟩ := sl_shape h0.ts
  obtain ⟨Pms, Cms, e3, _⟩ := sl_shape h0.ms
  dsimp only at e1 e2 e3
  subst e1 e2 e3
  clear h0
  obtain ⟨k1, ps1, ts1, b1, d1, n1, e01, ms1, str1⟩ := y
  have HX1 := Lib.hid h1
  obtain ⟨Pps1, Cps1, e1, _⟩ := sl_shape h1.ps
  obtain ⟨Pts1, Cts1, e2, _⟩ := sl_shape h1.ts
  obtain ⟨Pms1, Cms1, e3, _⟩ := sl_shape h1.ms
  dsimp only at e1 e2 e3
  subst e1 e2 e3
  clear h1
  dsimp only at f0 f1 f2 f3 f4
  have hB0 : Below w.heap.size w w := Below.refl _ _
  go_enter Tryd.func16, Tryd.ntmps16
  go_wp2
  go_ret
  exact ⟨rfl, ((hB0.alloc hB0.size (.cells #[.int .i64 k, .slice Pps ps.length Cps, .slice Pts ts.length Cts, .int .i64 b, .int .i64 d, .int .i64 n, .int .i64 e0, .slice Pms ms.length Cms, .string str] 28)).alloc (hB0.alloc hB0.size (.cells #[.int .i64 k, .slice Pps ps.length Cps, .slice Pts ts.length Cts, .int .i64 b, .int .i64 d, .int .i64 n, .int .i64 e0, .slice Pms ms.length Cms, .string str] 28)).size (.cells #[.int .i64 k1, .slice Pps1 ps1.length Cps1, .slice Pts1 ts1.length Cts1, .int .i64 b1, .int .i64 d1, .int .i64 n1, .int .i64 e01, .slice Pms1 ms1.length Cms1, .string str1] 28))⟩

set_option maxRecDepth 100000 in
set_option maxHeartbeats 8000000 in
theorem refSame_5 (x y : Ev) (vp vt vm up ut um : Value) (w : World) (h0 : EvR w vp vt vm x) (h1 : EvR w up ut um y) (f0 : (x.k != y.k) = false) (f1 : eqV x.b x.d x.n x.e y.b y.d y.n y.e = true) (f2 : (x.s.toList == y.s.toList) = true) (f3 : ((x.ps.length : Int) != (y.ps.length : Int)) = false) (f4 : ((x.ts.length : Int) != (y.ts.length : Int)) = false) (f5 : ((x.ms.length : Int) != (y.ms.length : Int)) = true) :
    Calls Tryd.prog 16 #[evv x vp vt vm, evv y up ut um] w fun ed w' => ed = .returned (.bool false) ∧ Below w.heap.size w w' := by
  have hgV := guardV
  have hnV := neq_vl
  have hgP := guardP
  have hnP := neq_pt
  obtain ⟨k, ps, ts, b, d, n, e0, ms, str⟩ := x
  have HX0 := Lib.hid h0
  obtain ⟨Pps, Cps, e1, _⟩ := sl_shape h0.ps
  obtain ⟨Pts, Cts, e2, _⟩ := sl_shape h0.ts
  obtain ⟨Pms, Cms, e3, _⟩ := sl_shape h0.ms
  dsimp only at e1 e2 e3
  subst e1 e2 e3
  clear h0
  obtain ⟨k1, ps1, ts1, b1, d1, n1, e01, ms1, str1⟩ := y
  have HX1 := Lib.hid h1
  obtain ⟨Pps1, Cps1, e1, _⟩ := sl_shape h1.ps
  obtain ⟨Pts1, Cts1, e2, _⟩ := sl_shape h1.ts
  obtain ⟨Pms1, Cms1, e3, _⟩ := sl_shape h1.ms
  dsimp only at e1 e2 e3
  subst e1 e2 e3
  clear h1
  dsimp only at f0 f1 f2 f3 f4 f5
  have hB0 : Below w.heap.size w w := Below.refl _ _
  go_enter Tryd.func16, Tryd.ntmps16
  go_wp2
  go_ret
  exact ⟨rfl, ((hB0.alloc hB0.size (.cells #[.int .i64 k, .slice Pps ps.length Cps, .slice Pts ts.length Cts, .int .i64 b, .int .i64 d, .int .i64 n, .int .i64 e0, .slice Pms ms.length Cms, .string str] 28)).alloc (hB0.alloc hB0.size (.cells #[.int .i64 k, .slice Pps ps.length Cps, .slice Pts ts.length Cts, .int .i64 b, .int .i64 d, .int .i64 n, .int .i64 e0, .slice Pms ms.length Cms, .string str] 28)).size (.cells #[.int .i64 k1, .slice Pps1 ps1.length Cps1, .slice Pts1 ts1.length Cts1, .int .i64 b1, .int .i64 d1, .int .i64 n1, .int .i64 e01, .slice Pms1 ms1.length Cms1, .string str1] 28))⟩

set_option maxRecDepth 100000 in
set_option maxHeartbeats 8000000 in
theorem refSame_all (x y : Ev) (vp vt vm up ut um : Value) (ANS : Bool) (w : World) (h0 : EvR w vp vt vm x) (h1 : EvR w up ut um y) (f0 : (x.k != y.k) = false) (f1 : eqV x.b x.d x.n x.e y.b y.d y.n y.e = true) (f2 : (x.s.toList == y.s.toList) = true) (f3 : ((x.ps.length : Int) != (y.ps.length : Int)) = false) (f4 : ((x.ts.length : Int) != (y.ts.length : Int)) = false) (f5 : ((x.ms.length : Int) != (y.ms.length : Int)) = false) (g3 : x.ps.length = y.ps.length) (g4 : x.ts.length = y.ts.length) (g5 : x.ms.length = y.ms.length) (HA : Hid (ANS = (decide (x.ps = y.ps) && (decide (x.ts = y.ts) && decide (x.ms = y.ms))))) :
    Calls Tryd.prog 16 #[evv x vp vt vm, evv y up ut um] w fun ed w' => ed = .returned (.bool ANS) ∧ Below w.heap.size w w' := by
  have hgV := guardV
  have hnV := neq_vl
  have hgP := guardP
  have hnP := neq_pt
  obtain ⟨k, ps, ts, b, d, n, e0, ms, str⟩ := x
  have HX0 := Lib.hid h0
  obtain ⟨Pps, Cps, e1, _⟩ := sl_shape h0.ps
  obtain ⟨Pts, Cts, e2, _⟩ := sl_shape h0.ts
  obtain ⟨Pms, Cms, e3, _⟩ := sl_shape h0.ms
  dsimp only at e1 e2 e3
  subst e1 e2 e3
  clear h0
  obtain ⟨k1, ps1, ts1, b1, d1, n1, e01, ms1, str1⟩ := y
  have HX1 := Lib.hid h1
  obtain ⟨Pps1, Cps1, e1, _⟩ := sl_shape h1.ps
  obtain ⟨Pts1, Cts1, e2, _⟩ := sl_shape h1.ts
  obtain ⟨Pms1, Cms1, e3, _⟩ := sl_shape h1.ms
  dsimp only at e1 e2 e3
  subst e1 e2 e3
  clear h1
  dsimp only at f0 f1 f2 f3 f4 f5 g3 g4 g5 HA
  have hB0 : Below w.heap.size w w := Below.refl _ _
  go_enter Tryd.func16, Tryd.ntmps16
  have G3 := Lib.hid g3
  have G4 := Lib.hid g4
  have G5 := Lib.hid g5
  clear g3 g4 g5
  go_wp2_with fail
  have hs1 : Below w.heap.size w ((w.alloc (.cells #[.int .i64 k, .slice Pps ps.length Cps, .slice Pts ts.length Cts, .int .i64 b, .int .i64 d, .int .i64 n, .int .i64 e0, .slice Pms ms.length Cms, .string str] 28)).alloc (.cells #[.int .i64 k1, .slice Pps1 ps1.length Cps1, .slice Pts1 ts1.length Cts1, .int .i64 b1, .int .i64 d1, .int .i64 n1, .int .i64 e01, .slice Pms1 ms1.length Cms1, .string str1] 28)) := by repeat (first | exact Below.refl _ _ | refine Below.alloc ?_ (by simp <;> omega) _)
  have c_e_0 : ((w.alloc (.cells #[.int .i64 k, .slice Pps ps.length Cps, .slice Pts ts.length Cts, .int .i64 b, .int .i64 d, .int .i64 n, .int .i64 e0, .slice Pms ms.length Cms, .string str] 28)).alloc (.cells #[.int .i64 k1, .slice Pps1 ps1.length Cps1, .slice Pts1 ts1.length Cts1, .int .i64 b1, .int .i64 d1, .int .i64 n1, .int .i64 e01, .slice Pms1 ms1.length Cms1, .string str1] 28)).cell? ⟨w.heap.size, 0, none⟩ = some (.int .i64 k) := by go_simp
  have c_e_1 : ((w.alloc (.cells #[.int .i64 k, .slice Pps ps.length Cps, .slice Pts ts.length Cts, .int .i64 b, .int .i64 d, .int .i64 n, .int .i64 e0, .slice Pms ms.length Cms, .string str] 28)).alloc (.cells #[.int .i64 k1, .slice Pps1 ps1.length Cps1, .slice Pts1 ts1.length Cts1, .int .i64 b1, .int .i64 d1, .int .i64 n1, .int .i64 e01, .slice Pms1 ms1.length Cms1, .string str1] 28)).cell? ⟨w.heap.size, 1, none⟩ = some (.slice Pps ps.length Cps) := by go_simp
  have c_e_2 : ((w.alloc (.cells #[.int .i64 k, .slice Pps ps.length Cps, .slice Pts ts.length Cts, .int .i64 b, .int .i64 d, .int .i64 n, .int .i64 e0, .slice Pms ms.length Cms, .string str] 28)).alloc (.cells #[.int .i64 k1, .slice Pps1 ps1.length Cps1, .slice Pts1 ts1.length Cts1, .int .i64 b1, .int .i64 d1, .int .i64 n1, .int .i64 e01, .slice Pms1 ms1.length Cms1, .string str1] 28)).cell? ⟨w.heap.size, 2, none⟩ = some (.slice Pts ts.length Cts) := by go_simp
  have c_e_3 : ((w.alloc (.cells #[.int .i64 k, .slice Pps ps.length Cps, .slice Pts ts.length Cts, .int .i64 b, .int .i64 d, .int .i64 n, .int .i64 e0, .slice Pms ms.length Cms, .string str] 28)).alloc (.cells #[.int .i64 k1, .slice Pps1 ps1.length Cps1, .slice Pts1 ts1.length Cts1, .int .i64 b1, .int .i64 d1, .int .i64 n1, .int .i64 e01, .slice Pms1 ms1.length Cms1, .string str1] 28)).cell? ⟨w.heap.size, 3, none⟩ = some (.int .i64 b) := by go_simp
  have c_e_4 : ((w.alloc (.cells #[.int .i64 k, .slice Pps ps.length Cps, .slice Pts ts.length Cts, .int .i64 b, .int .i64 d, .int .i64 n, .int .i64 e0, .slice Pms ms.length Cms, .string str] 28)).alloc (.cells #[.int .i64 k1, .slice Pps1 ps1.length Cps1, .slice Pts1 ts1.length Cts1, .int .i64 b1, .int .i64 d1, .int .i64 n1, .int .i64 e01, .slice Pms1 ms1.length Cms1, .string str1] 28)).cell? ⟨w.heap.size, 4, none⟩ = some (.int .i64 d) := by go_simp
  have c_e_5 : ((w.alloc (.cells #[.int .i64 k, .slice Pps ps.length Cps, .slice Pts ts.length Cts, .int .i64 b, .int .i64 d, .int .i64 n, .int .i64 e0, .slice Pms ms.length Cms, .string str] 28)).alloc (.cells #[.int .i64 k1, .slice Pps1 ps1.length Cps1, .slice Pts1 ts1.length Cts1, .int .i64 b1, .int .i64 d1, .int .i64 n1, .int .i64 e01, .slice Pms1 ms1.length Cms1, .string str1] 28)).cell? ⟨w.heap.size, 5, none⟩ = some (.int .i64 n) := by go_simp
  have c_e_6 : ((w.alloc (.cells #[.int .i64 k, .slice Pps ps.length Cps, .slice Pts ts.length Cts, .int .i64 b, .int .i64 d, .int .i64 n, .int .i64 e0, .slice Pms ms.length Cms, .string str] 28)).alloc (.cells #[.int .i64 k1, .slice Pps1 ps1.length Cps1, .slice Pts1 ts1.length Cts1, .int .i64 b1, .int .i64 d1, .int .i64 n1, .int .i64 e01, .slice Pms1 ms1.length Cms1, .string str1] 28)).cell? ⟨w.heap.size, 6, none⟩ = some (.int .i64 e0) := by go_simp
  have c_e_7 : ((w.alloc (.cells #[.int .i64 k, .slice Pps ps.length Cps, .slice Pts ts.length Cts, .int .i64 b, .int .i64 d, .int .i64 n, .int .i64 e0, .slice Pms ms.length Cms, .string str] 28)).alloc (.cells #[.int .i64 k1, .slice Pps1 ps1.length Cps1, .slice Pts1 ts1.length Cts1, .int .i64 b1, .int .i64 d1, .int .i64 n1, .int .i64 e01, .slice Pms1 ms1.length Cms1, .string str1] 28)).cell? ⟨w.heap.size, 7, none⟩ = some (.slice Pms ms.length Cms) := by go_simp
  have c_e_8 : ((w.alloc (.cells #[.int .i64 k, .slice Pps ps.length Cps, .slice Pts ts.length Cts, .int .i64 b, .int .i64 d, .int .i64 n, .int .i64 e0, .slice Pms ms.length Cms, .string str] 28)).alloc (.cells #[.int .i64 k1, .slice Pps1 ps1.length Cps1, .slice Pts1 ts1.length Cts1, .int .i64 b1, .int .i64 d1, .int .i64 n1, .int .i64 e01, .slice Pms1 ms1.length Cms1, .string str1] 28)).cell? ⟨w.heap.size, 8, none⟩ = some (.string str) := by go_simp
  have c_f_0 : ((w.alloc (.cells #[.int .i64 k, .slice Pps ps.length Cps, .slice Pts ts.length Cts, .int .i64 b, .int .i64 d, .int .i64 n, .int .i64 e0, .slice Pms ms.length Cms, .string str] 28)).alloc (.cells #[.int .i64 k1, .slice Pps1 ps1.length Cps1, .slice Pts1 ts1.length Cts1, .int .i64 b1, .int .i64 d1, .int .i64 n1, .int .i64 e01, .slice Pms1 ms1.length Cms1, .string str1] 28)).cell? ⟨w.heap.size + 1, 0, none⟩ = some (.int .i64 k1) := by go_simp
  have c_f_1 : ((w.alloc (.cells #[.int .i64 k, .slice Pps ps.length Cps, .slice Pts ts.length Cts, .int .i64 b, .int .i64 d, .int .i64 n, .int .i64 e0, .slice Pms ms.length Cms, .string str] 28)).alloc (.cells #[.int .i64 k1, .slice Pps1 ps1.length Cps1, .slice Pts1 ts1.length Cts1, .int .i64 b1, .int .i64 d1, .int .i64 n1, .int .i64 e01, .slice Pms1 ms1.length Cms1, .string str1] 28)).cell? ⟨w.heap.size + 1, 1, none⟩ = some (.slice Pps1 ps1.length Cps1) := by go_simp
  have c_f_2 : ((w.alloc (.cells #[.int .i64 k, .slice Pps ps.length Cps, .slice Pts ts.length Cts, .int .i64 b, .int .i64 d, .int .i64 n, .int .i64 e0, .slice Pms ms.length Cms, .string str] 28)).alloc (.cells #[.int .i64 k1, .slice Pps1 ps1.length Cps1, .slice Pts1 ts1.length Cts1, .int .i64 b1, .int .i64 d1, .int .i64 n1, .int .i64 e01, .slice Pms1 ms1.length Cms1, .string str1] 28)).cell? ⟨w.heap.size + 1, 2, none⟩ = some (.slice Pts1 ts1.length Cts1) := by go_simp
  have c_f_3 : ((w.alloc (.cells #[.int .i64 k, .slice Pps ps.length Cps, .slice Pts ts.length Cts, .int .i64 b, .int .i64 d, .int .i64 n, .int .i64 e0, .slice Pms ms.length Cms, .string str] 28)).alloc (.cells #[.int .i64 k1, .slice Pps1 ps1.length Cps1, .slice Pts1 ts1.length Cts1, .int .i64 b1, .int .i64 d1, .int .i64 n1, .int .i64 e01, .slice Pms1 ms1.length Cms1, .string str1] 28)).cell? ⟨w.heap.size + 1, 3, none⟩ = some (.int .i64 b1) := by go_simp
  have c_f_4 : ((w.alloc (.cells #[.int .i64 k, .slice Pps ps.length Cps, .slice Pts ts.length Cts, .int .i64 b, .int .i64 d, .int .i64 n, .int .i64 e0, .slice Pms ms.length Cms, .string str] 28)).alloc (.cells #[.int .i64 k1, .slice Pps1 ps1.length Cps1, .slice Pts1 ts1.length Cts1, .int .i64 b1, .int .i64 d1, .int .i64 n1, .int .i64 e01, .slice Pms1 ms1.length Cms1, .string str1] 28)).cell? ⟨w.heap.size + 1, 4, none⟩ = some (.int .i64 d1) := by go_simp
  have c_f_5 : ((w.alloc (.cells #[.int .i64 k, .slice Pps ps.length Cps, .slice Pts ts.length Cts, .int .i64 b, .int .i64 d, .int .i64 n, .int .i64 e0, .slice Pms ms.length Cms, .string str] 28)).alloc (.cells #[.int .i64 k1, .slice Pps1 ps1.length Cps1, .slice Pts1 ts1.length Cts1, .int .i64 b1, .int .i64 d1, .int .i64 n1, .int .i64 e01, .slice Pms1 ms1.length Cms1, .string str1] 28)).cell? ⟨w.heap.size + 1, 5, none⟩ = some (.int .i64 n1) := by go_simp
  have c_f_6 : ((w.alloc (.cells #[.int .i64 k, .slice Pps ps.length Cps, .slice Pts ts.length Cts, .int .i64 b, .int .i64 d, .int .i64 n, .int .i64 e0, .slice Pms ms.length Cms, .string str] 28)).alloc (.cells #[.int .i64 k1, .slice Pps1 ps1.length Cps1, .slice Pts1 ts1.length Cts1, .int .i64 b1, .int .i64 d1, .int .i64 n1, .int .i64 e01, .slice Pms1 ms1.length Cms1, .string str1] 28)).cell? ⟨w.heap.size + 1, 6, none⟩ = some (.int .i64 e01) := by go_simp
  have c_f_7 : ((w.alloc (.cells #[.int .i64 k, .slice Pps ps.length Cps, .slice Pts ts.length Cts, .int .i64 b, .int .i64 d, .int .i64 n, .int .i64 e0, .slice Pms ms.length Cms, .string str] 28)).alloc (.cells #[.int .i64 k1, .slice Pps1 ps1.length Cps1, .slice Pts1 ts1.length Cts1, .int .i64 b1, .int .i64 d1, .int .i64 n1, .int .i64 e01, .slice Pms1 ms1.length Cms1, .string str1] 28)).cell? ⟨w.heap.size + 1, 7, none⟩ = some (.slice Pms1 ms1.length Cms1) := by go_simp
  have c_f_8 : ((w.alloc (.cells #[.int .i64 k, .slice Pps ps.length Cps, .slice Pts ts.length Cts, .int .i64 b, .int .i64 d, .int .i64 n, .int .i64 e0, .slice Pms ms.length Cms, .string str] 28)).alloc (.cells #[.int .i64 k1, .slice Pps1 ps1.length Cps1, .slice Pts1 ts1.length Cts1, .int .i64 b1, .int .i64 d1, .int .i64 n1, .int .i64 e01, .slice Pms1 ms1.length Cms1, .string str1] 28)).cell? ⟨w.heap.size + 1, 8, none⟩ = some (.string str1) := by go_simp
  have hB1 := below_two hB0 hs1
  clear hB0 hs1
  generalize ((w.alloc (.cells #[.int .i64 k, .slice Pps ps.length Cps, .slice Pts ts.length Cts, .int .i64 b, .int .i64 d, .int .i64 n, .int .i64 e0, .slice Pms ms.length Cms, .string str] 28)).alloc (.cells #[.int .i64 k1, .slice Pps1 ps1.length Cps1, .slice Pts1 ts1.length Cts1, .int .i64 b1, .int .i64 d1, .int .i64 n1, .int .i64 e01, .slice Pms1 ms1.length Cms1, .string str1] 28)) = w1 at *
  have z_e : w.heap.size < _ := World.block_lt_of_cell? _ _ c_e_0
  have z_f : w.heap.size + 1 < _ := World.block_lt_of_cell? _ _ c_f_0
  go_loopw [5] (fun i wr => EqRel ps ps1 w1 i wr) (fun i _ => ps.length - (intOf i).toNat)
  case atStart => exact ⟨0, Nat.zero_le _, rfl, rfl, Below.refl _ _⟩
  case round =>
    obtain ⟨k3, hk3, rfl, he3, hR3⟩ := hrel
    obtain ⟨v3, hv3⟩ : ∃ z, z = wr := ⟨_, rfl⟩
    subst hv3
    have HE3 := Lib.hid he3
    clear he3
    have a3 := cell_later hR3 c_e_1
    have a3' := cell_later hR3 c_f_1
    by_cases hlt3 : k3 < ps.length
    · obtain ⟨x, hx⟩ : ∃ x, ps[k3]? = some x := ⟨_, List.getElem?_eq_getElem hlt3⟩
      obtain ⟨y, hy⟩ : ∃ y, ps1[k3]? = some y := ⟨_, List.getElem?_eq_getElem (by have := G3.out; omega)⟩
      have hlt' : (k3 : Int) < (ps.length : Int) := by omega
      have hlt'' : (k3 : Int) < (ps1.length : Int) := by have := G3.out; omega
      have HS1 := Lib.hid ((HX0.out.later hB1).ps.later hR3)
      have HS2 := Lib.hid ((HX1.out.later hB1).ps.later hR3)
      obtain ⟨bx1, ox1, ex1, hcx, hcx', hcx''⟩ := pits_at HS1.out hx
      obtain ⟨bx2, ox2, ex2, hcy, hcy', hcy''⟩ := pits_at HS2.out hy
      subst ex1 ex2
      have HX := Lib.hid hx
      have HY := Lib.hid hy
      clear hx hy
      obtain ⟨x0, x1, x2⟩ := x
      obtain ⟨y0, y1, y2⟩ := y
      dsimp only at hcx hcx' hcx'' hcy hcy' hcy''
      go_wp2_with fail
      go_quiet (fail)
      go_wp2
      · have hxy : (x0, x1, x2) ≠ (y0, y1, y2) := by
          have : (!eqP x0 x1 x2 y0 y1 y2) = true := by assumption
          intro e; cases e; rw [eqP_self] at this; cases this
        go_ret
        exact ⟨ret_bool (by rw [HA.out, decide_eq_false (ne_at HX.out HY.out hxy)]; rfl), below_two hB1 (below_drewN hR3 _)⟩
      · have hxy : (x0, x1, x2) = (y0, y1, y2) := by
          have : (!eqP x0 x1 x2 y0 y1 y2) = false := by assumption
          have h2 : eqP x0 x1 x2 y0 y1 y2 = true := by simpa using this
          obtain ⟨rfl, rfl, rfl⟩ := (eqP_iff _ _ _ _ _ _).1 h2
          rfl
        go_roundw
        case rel => exact ⟨k3 + 1, by omega, by go_num, take_eq HX.out HY.out HE3.out hxy, below_drewN hR3 _⟩
        case measure => simp [intOf]; omega
    · obtain rfl : k3 = ps.length := by omega
      have HQ3 := Lib.hid (eq_all G3.out HE3.out)
      clear HE3
      go_wp2
      clear a3 a3'
      go_loopw [6] (fun i wr => EqRel ts ts1 w1 i wr) (fun i _ => ts.length - (intOf i).toNat)
      case atStart => exact ⟨0, Nat.zero_le _, rfl, rfl, hR3⟩
      case round =>
        obtain ⟨k4, hk4, rfl, he4, hR4⟩ := hrel
        obtain ⟨v4, hv4⟩ : ∃ z, z = wr := ⟨_, rfl⟩
        subst hv4
        have HE4 := Lib.hid he4
        clear he4
        have a4 := cell_later hR4 c_e_2
        have a4' := cell_later hR4 c_f_2
        by_cases hlt4 : k4 < ts.length
        · obtain ⟨x, hx⟩ : ∃ x, ts[k4]? = some x := ⟨_, List.getElem?_eq_getElem hlt4⟩
          obtain ⟨y, hy⟩ : ∃ y, ts1[k4]? = some y := ⟨_, List.getElem?_eq_getElem (by have := G4.out; omega)⟩
          have hlt' : (k4 : Int) < (ts.length : Int) := by omega
          have hlt'' : (k4 : Int) < (ts1.length : Int) := by have := G4.out; omega
          have HS1 := Lib.hid ((HX0.out.later hB1).ts.later hR4)
          have HS2 := Lib.hid ((HX1.out.later hB1).ts.later hR4)
          obtain ⟨bx1, ox1, ex1, hcx⟩ := bools_at HS1.out hx
          obtain ⟨bx2, ox2, ex2, hcy⟩ := bools_at HS2.out hy
          subst ex1 ex2
          have HX := Lib.hid hx
          have HY := Lib.hid hy
          clear hx hy
          go_wp2_with fail
          go_quiet (fail)
          go_wp2
          · have hxy : x ≠ y := by have : (x != y) = true := by assumption
                                   simpa using this
            go_ret
            exact ⟨ret_bool (by rw [HA.out, decide_eq_true HQ3.out, decide_eq_false (ne_at HX.out HY.out hxy)]; rfl), below_two hB1 (below_drewN hR4 _)⟩
          · have hxy : x = y := by have : (x != y) = false := by assumption
                                   simpa using this
            go_roundw
            case rel => exact ⟨k4 + 1, by omega, by go_num, take_eq HX.out HY.out HE4.out hxy, below_drewN hR4 _⟩
            case measure => simp [intOf]; omega
        · obtain rfl : k4 = ts.length := by omega
          have HQ4 := Lib.hid (eq_all G4.out HE4.out)
          clear HE4
          go_wp2
          clear a4 a4'
          go_loopw [7] (fun i wr => EqRel ms ms1 w1 i wr) (fun i _ => ms.length - (intOf i).toNat)
          case atStart => exact ⟨0, Nat.zero_le _, rfl, rfl, hR4⟩
          case round =>
            obtain ⟨k5, hk5, rfl, he5, hR5⟩ := hrel
            obtain ⟨v5, hv5⟩ : ∃ z, z = wr := ⟨_, rfl⟩
            subst hv5
            have HE5 := Lib.hid he5
            clear he5
            have a5 := cell_later hR5 c_e_7
            have a5' := cell_later hR5 c_f_7
            by_cases hlt5 : k5 < ms.length
            · obtain ⟨x, hx⟩ : ∃ x, ms[k5]? = some x := ⟨_, List.getElem?_eq_getElem hlt5⟩
              obtain ⟨y, hy⟩ : ∃ y, ms1[k5]? = some y := ⟨_, List.getElem?_eq_getElem (by have := G5.out; omega)⟩
              have hlt' : (k5 : Int) < (ms.length : Int) := by omega
              have hlt'' : (k5 : Int) < (ms1.length : Int) := by have := G5.out; omega
              have HS1 := Lib.hid ((HX0.out.later hB1).ms.later hR5)
              have HS2 := Lib.hid ((HX1.out.later hB1).ms.later hR5)
              obtain ⟨bx1, ox1, ex1, hcx⟩ := ints_at HS1.out hx
              obtain ⟨bx2, ox2, ex2, hcy⟩ := ints_at HS2.out hy
              subst ex1 ex2
              have HX := Lib.hid hx
              have HY := Lib.hid hy
              clear hx hy
              go_wp2_with fail
              go_quiet (fail)
              go_wp2
              · have hxy : x ≠ y := by have : (x != y) = true := by assumption
                                       simpa using this
                go_ret
                exact ⟨ret_bool (by rw [HA.out, decide_eq_true HQ3.out, decide_eq_true HQ4.out, decide_eq_false (ne_at HX.out HY.out hxy)]; rfl), below_two hB1 (below_drewN hR5 _)⟩
              · have hxy : x = y := by have : (x != y) = false := by assumption
                                       simpa using this
                go_roundw
                case rel => exact ⟨k5 + 1, by omega, by go_num, take_eq HX.out HY.out HE5.out hxy, below_drewN hR5 _⟩
                case measure => simp [intOf]; omega
            · obtain rfl : k5 = ms.length := by omega
              have HQ5 := Lib.hid (eq_all G5.out HE5.out)
              clear HE5
              go_wp2
              clear a5 a5'
              go_ret
              exact ⟨ret_bool (by rw [HA.out, decide_eq_true HQ3.out, decide_eq_true HQ4.out, decide_eq_true HQ5.out]; rfl), below_two hB1 hR5⟩

theorem refSame_any (x y : Ev) (vp vt vm up ut um : Value) (w : World) (h : EvR w vp vt vm x) (h2 : EvR w up ut um y) : Calls Tryd.prog 16 #[evv x vp vt vm, evv y up ut um] w fun ed w' => ed = .returned (.bool (sameE x y)) ∧ Below w.heap.size w w' := by
  have neI : ∀ {a b : Int}, ¬ a = b → (a != b) = true := fun h => by simpa using h
  have neN : ∀ {a b : Nat}, ¬ a = b → ((a : Int) != (b : Int)) = true := fun h => by simp; omega
  have eqN : ∀ {a b : Nat}, a = b → ((a : Int) != (b : Int)) = false := fun h => by simp; omega
  have no : ∀ {p : Prop}, (x = y → p) → ¬ p → sameE x y = false := fun h n => by
    rw [← Bool.not_eq_true, sameE_iff]; exact fun e => n (h e)
  by_cases hk : x.k = y.k
  case neg => rw [no (fun e => by rw [e]) hk]; exact refSame_0 x y _ _ _ _ _ _ w h h2 (neI hk)
  case pos =>
  have k0 : (x.k != y.k) = false := by simpa using hk
  cases hv : eqV x.b x.d x.n x.e y.b y.d y.n y.e
  · rw [no (p := eqV x.b x.d x.n x.e y.b y.d y.n y.e = true) (fun e => by rw [e]; exact eqV_self _ _ _ _) (by rw [hv]; decide)]; exact refSame_1 x y _ _ _ _ _ _ w h h2 k0 hv
  by_cases hs : x.s = y.s
  case neg => rw [no (fun e => by rw [e]) hs]; exact refSame_2 x y _ _ _ _ _ _ w h h2 k0 hv (str_ne hs)
  case pos =>
  have s0 := str_eq hs
  by_cases hp : x.ps.length = y.ps.length
  case neg => rw [no (fun e => by rw [e]) hp]; exact refSame_3 x y _ _ _ _ _ _ w h h2 k0 hv s0 (neN hp)
  case pos =>
  by_cases ht : x.ts.length = y.ts.length
  case neg => rw [no (fun e => by rw [e]) ht]; exact refSame_4 x y _ _ _ _ _ _ w h h2 k0 hv s0 (eqN hp) (neN ht)
  case pos =>
  by_cases hm : x.ms.length = y.ms.length
  case neg => rw [no (fun e => by rw [e]) hm]; exact refSame_5 x y _ _ _ _ _ _ w h h2 k0 hv s0 (eqN hp) (eqN ht) (neN hm)
  case pos =>
  refine refSame_all x y _ _ _ _ _ _ _ w h h2 k0 hv s0 (eqN hp) (eqN ht) (eqN hm) hp ht hm (Lib.hid ?_)
  unfold sameE
  rw [hv, decide_eq_true hk, decide_eq_true hs]
  simp
theorem refSame_is {x y : Ev} {q : Bool} (hq : sameE x y = q) (vp vt vm up ut um : Value) (w : World) (h : EvR w vp vt vm x) (h2 : EvR w up ut um y) : Calls Tryd.prog 16 #[evv x vp vt vm, evv y up ut um] w fun ed w' => ed = .returned (.bool q) ∧ Below w.heap.size w w' := by subst hq; exact refSame_any x y _ _ _ _ _ _ w h h2
end Go.Proofs.YtnfnonlbokddfaaDoor
