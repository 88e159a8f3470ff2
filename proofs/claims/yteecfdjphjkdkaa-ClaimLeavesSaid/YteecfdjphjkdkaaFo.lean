import Derived.Test.YteecfdjphjkdkaaFm
import Derived.Test.YteecfdjphjkdkaaFn
namespace Go.Proofs.Yteecfdjphjkdkaa
open Go.RowKit
set_option maxRecDepth 100000 in
set_option maxHeartbeats 1000000 in
theorem awbBad_any (k : Int) (L : List Int) (E : Int) (ao : Option Addr) (n cap : Nat) (w : World) (hI : Ints w ao L) (hln : n = L.length) (hn : n ≤ 100000) (hbad : Cl.caseC L E = 1) :
    Calls Try.prog 53 #[.int .i64 k, .slice ao n cap, .int .i64 E] w fun e w' => e = .returned (.tuple #[.slice none 0 0, .int .i64 1]) ∧ Below w.heap.size w w' := by
  have Hn := Lib.hid hln
  clear hln
  go_enter Try.func53, Try.ntmps53
  go_wp2_with fail
  refine (validate_any L E ao n cap w hI Hn.out hn).mono ?_
  rintro e w1 ⟨rfl, hb1⟩
  rw [hbad]
  go_wp2_with fail
  go_ret2
  exact ⟨rfl, hb1⟩
set_option maxRecDepth 100000 in
set_option maxHeartbeats 1000000 in
theorem byParts_any (L : List Int) (E : Int) (ao : Option Addr) (n cap : Nat) (w : World) (hI : Ints w ao L) (hln : n = L.length) (hok : Cl.okC L = true) (h0 : 0 ≤ E) (h1 : E ≤ Fl.sumI L) :
    Calls Try.prog 17 #[.slice ao n cap, .int .i64 E] w fun e w' => ∃ q v, q = mkRat E (max 1 (Fl.sumI L)).toNat ∧ e = .returned (.tuple #[v, .int .i64 0]) ∧ w'.ownsRow w.heap.size 35 2 v n (flat2 ((L.map fun c => mkRat (c * q.num) q.den).map pr)) ∧ Below w.heap.size w w' := by
  have H := Lib.hid (awb0_any L E ao n cap w hI hln hok h0 h1)
  clear hln hok h0 h1 hI
  go_enter Try.func17, Try.ntmps17
  go_wp2_with fail
  refine H.out.mono ?_
  rintro e w1 ⟨q, v, hq, rfl, ho, hb⟩
  have HH := Lib.hid (And.intro hq (And.intro ho hb))
  clear hq ho hb
  go_wp2_with fail
  go_ret2
  exact ⟨q, v, HH.out.1, rfl, HH.out.2.1, HH.out.2.2⟩
set_option maxRecDepth 100000 in
set_option maxHeartbeats 1000000 in
theorem byPartsBad_any (L : List Int) (E : Int) (ao : Option Addr) (n cap : Nat) (w : World) (hI : Ints w ao L) (hln : n = L.length) (hn : n ≤ 100000) (hbad : Cl.caseC L E = 1) :
    Calls Try.prog 17 #[.slice ao n cap, .int .i64 E] w fun e w' => e = .returned (.tuple #[.slice none 0 0, .int .i64 1]) ∧ Below w.heap.size w w' := by
  have H := Lib.hid (awbBad_any 0 L E ao n cap w hI hln hn hbad)
  clear hln hbad hI
  go_enter Try.func17, Try.ntmps17
  go_wp2_with fail
  refine H.out.mono ?_
  rintro e w1 ⟨rfl, hb⟩
  go_wp2_with fail
  go_ret2
  exact ⟨rfl, hb⟩
set_option maxRecDepth 100000 in
set_option maxHeartbeats 1000000 in
theorem byAwards_any (L : List Int) (E : Int) (ao : Option Addr) (n cap : Nat) (w : World) (hI : Ints w ao L) (hln : n = L.length) (hok : Cl.okC L = true) (h0 : 0 ≤ E) (h1 : E ≤ Fl.sumI L) :
    Calls Try.prog 23 #[.slice ao n cap, .int .i64 E] w fun e w' => ∃ q v, (∃ a d, Cl.LevS L (E) a d ∧ q = mkRat a d.toNat) ∧ e = .returned (.tuple #[v, .int .i64 0]) ∧ w'.ownsRow w.heap.size 35 2 v n (flat2 ((L.map fun c => mkRat (min (c * q.den) q.num) q.den).map pr)) ∧ Below w.heap.size w w' := by
  have H := Lib.hid (awb1_any L E ao n cap w hI hln hok h0 h1)
  clear hln hok h0 h1 hI
  go_enter Try.func23, Try.ntmps23
  go_wp2_with fail
  refine H.out.mono ?_
  rintro e w1 ⟨q, v, hq, rfl, ho, hb⟩
  have HH := Lib.hid (And.intro hq (And.intro ho hb))
  clear hq ho hb
  go_wp2_with fail
  go_ret2
  exact ⟨q, v, HH.out.1, rfl, HH.out.2.1, HH.out.2.2⟩
set_option maxRecDepth 100000 in
set_option maxHeartbeats 1000000 in
theorem byAwardsBad_any (L : List Int) (E : Int) (ao : Option Addr) (n cap : Nat) (w : World) (hI : Ints w ao L) (hln : n = L.length) (hn : n ≤ 100000) (hbad : Cl.caseC L E = 1) :
    Calls Try.prog 23 #[.slice ao n cap, .int .i64 E] w fun e w' => e = .returned (.tuple #[.slice none 0 0, .int .i64 1]) ∧ Below w.heap.size w w' := by
  have H := Lib.hid (awbBad_any 1 L E ao n cap w hI hln hn hbad)
  clear hln hbad hI
  go_enter Try.func23, Try.ntmps23
  go_wp2_with fail
  refine H.out.mono ?_
  rintro e w1 ⟨rfl, hb⟩
  go_wp2_with fail
  go_ret2
  exact ⟨rfl, hb⟩
set_option maxRecDepth 100000 in
set_option maxHeartbeats 1000000 in
theorem byLosses_any (L : List Int) (E : Int) (ao : Option Addr) (n cap : Nat) (w : World) (hI : Ints w ao L) (hln : n = L.length) (hok : Cl.okC L = true) (h0 : 0 ≤ E) (h1 : E ≤ Fl.sumI L) :
    Calls Try.prog 25 #[.slice ao n cap, .int .i64 E] w fun e w' => ∃ q v, (∃ a d, Cl.LevS L (Fl.sumI L - E) a d ∧ q = mkRat a d.toNat) ∧ e = .returned (.tuple #[v, .int .i64 0]) ∧ w'.ownsRow w.heap.size 35 2 v n (flat2 ((L.map fun c => mkRat (max 0 (c * q.den - q.num)) q.den).map pr)) ∧ Below w.heap.size w w' := by
  have H := Lib.hid (awb2_any L E ao n cap w hI hln hok h0 h1)
  clear hln hok h0 h1 hI
  go_enter Try.func25, Try.ntmps25
  go_wp2_with fail
  refine H.out.mono ?_
  rintro e w1 ⟨q, v, hq, rfl, ho, hb⟩
  have HH := Lib.hid (And.intro hq (And.intro ho hb))
  clear hq ho hb
  go_wp2_with fail
  go_ret2
  exact ⟨q, v, HH.out.1, rfl, HH.out.2.1, HH.out.2.2⟩
set_option maxRecDepth 100000 in
set_option maxHeartbeats 1000000 in
theorem byLossesBad_any (L : List Int) (E : Int) (ao : Option Addr) (n cap : Nat) (w : World) (hI : Ints w ao L) (hln : n = L.length) (hn : n ≤ 100000) (hbad : Cl.caseC L E = 1) :
    Calls Try.prog 25 #[.slice ao n cap, .int .i64 E] w fun e w' => e = .returned (.tuple #[.slice none 0 0, .int .i64 1]) ∧ Below w.heap.size w w' := by
  have H := Lib.hid (awbBad_any 2 L E ao n cap w hI hln hn hbad)
  clear hln hbad hI
  go_enter Try.func25, Try.ntmps25
  go_wp2_with fail
  refine H.out.mono ?_
  rintro e w1 ⟨rfl, hb⟩
  go_wp2_with fail
  go_ret2
  exact ⟨rfl, hb⟩
set_option maxRecDepth 100000 in
set_option maxHeartbeats 1000000 in
theorem byCourtLo_any (L : List Int) (E : Int) (ao : Option Addr) (n cap : Nat) (w : World) (hI : Ints w ao L) (hln : n = L.length) (hok : Cl.okC L = true) (h0 : 0 ≤ E) (h1 : 2 * E ≤ Fl.sumI L) :
    Calls Try.prog 31 #[.slice ao n cap, .int .i64 E] w fun e w' => ∃ q v, (∃ a d, Cl.LevS L (2 * E) a d ∧ q = mkRat a d.toNat) ∧ e = .returned (.tuple #[v, .int .i64 0]) ∧ w'.ownsRow w.heap.size 35 2 v n (flat2 ((L.map fun c => mkRat (min (c * q.den) q.num) (2 * q.den)).map pr)) ∧ Below w.heap.size w w' := by
  have Hn := Lib.hid hln
  have HC := Lib.hid (Cl.okC_iff.1 hok)
  have Hok := Lib.hid hok
  have hS8 : 0 ≤ Fl.sumI L ∧ Fl.sumI L ≤ 8000 := by
    have h := Cl.sum_small (B := 1000) (by omega) (l := L) (fun x hx => by have := HC.out.2.2 x hx; omega)
    have h2 := Cl.sum_nonneg (l := L) (fun x hx => by have := HC.out.2.2 x hx; omega)
    have := HC.out; omega
  have hcase : Cl.caseC L E = 0 := Cl.caseC_ok.2 ⟨hok, by omega, by omega⟩
  have hE : 0 ≤ E ∧ E ≤ 8000 := by omega
  have hn8 : n ≤ 8 := by have := HC.out; omega
  have HH := Lib.hid (And.intro h0 h1)
  clear hln hok
  have e1 : IntKind.i64.wrap (2 * E) = 2 * E := IntWalk.i64_in _ (by omega)
  obtain ⟨S, hS⟩ : ∃ S, S = Fl.sumI L := ⟨_, rfl⟩
  have hcmp : 2 * E ≤ S := by omega
  have HS := Lib.hid hS
  clear hS h0 h1 hS8 hE
  go_enter Try.func31, Try.ntmps31
  go_wp2_with fail
  refine (validate_any L E ao n cap w hI Hn.out (by omega)).mono ?_
  rintro e w1 ⟨rfl, hb1⟩
  rw [hcase]
  clear hcase
  replace hI := hI.below hb1
  go_wp2_with fail
  refine (sum_any L ao n cap w1 hI Hn.out (by omega) (fun x hx => by have := HC.out.2.2 x hx; omega)).mono ?_
  rintro e w2 ⟨rfl, hw0⟩; obtain rfl := hw0.symm
  rw [← HS.out]
  go_wp2_with fail
  refine (awb3_any L E ao n cap w1 hI Hn.out Hok.out HH.out.1 HH.out.2).mono ?_
  rintro e w3 ⟨q, v, hq, rfl, ho, hb⟩
  have HR := Lib.hid (And.intro hq (And.intro (own_mono ho hb1.size) (hb1.trans (hb.mono hb1.size))))
  clear hq ho hb hb1
  go_wp2_with fail
  go_ret2
  exact ⟨q, v, HR.out.1, rfl, HR.out.2.1, HR.out.2.2⟩
set_option maxRecDepth 100000 in
set_option maxHeartbeats 1000000 in
theorem byCourtHi_any (L : List Int) (E : Int) (ao : Option Addr) (n cap : Nat) (w : World) (hI : Ints w ao L) (hln : n = L.length) (hok : Cl.okC L = true) (h0 : Fl.sumI L ≤ 2 * E) (h1 : E ≤ Fl.sumI L) (hlo : Fl.sumI L < 2 * E) :
    Calls Try.prog 31 #[.slice ao n cap, .int .i64 E] w fun e w' => ∃ q v, (∃ a d, Cl.LevS L (Fl.sumI L - (2 * E - Fl.sumI L)) a d ∧ q = mkRat a d.toNat) ∧ e = .returned (.tuple #[v, .int .i64 0]) ∧ w'.ownsRow w.heap.size 35 2 v n (flat2 ((L.map fun c => mkRat (c * q.den + max 0 (c * q.den - q.num)) (2 * q.den)).map pr)) ∧ Below w.heap.size w w' := by
  have Hn := Lib.hid hln
  have HC := Lib.hid (Cl.okC_iff.1 hok)
  have Hok := Lib.hid hok
  have hS8 : 0 ≤ Fl.sumI L ∧ Fl.sumI L ≤ 8000 := by
    have h := Cl.sum_small (B := 1000) (by omega) (l := L) (fun x hx => by have := HC.out.2.2 x hx; omega)
    have h2 := Cl.sum_nonneg (l := L) (fun x hx => by have := HC.out.2.2 x hx; omega)
    have := HC.out; omega
  have hcase : Cl.caseC L E = 0 := Cl.caseC_ok.2 ⟨hok, by omega, by omega⟩
  have hE : 0 ≤ E ∧ E ≤ 8000 := by omega
  have hn8 : n ≤ 8 := by have := HC.out; omega
  have HH := Lib.hid (And.intro h0 h1)
  clear hln hok
  have e1 : IntKind.i64.wrap (2 * E) = 2 * E := IntWalk.i64_in _ (by omega)
  obtain ⟨S, hS⟩ : ∃ S, S = Fl.sumI L := ⟨_, rfl⟩
  have hcmp : S < 2 * E := by omega
  have HS := Lib.hid hS
  clear hS h0 h1 hS8 hE
  go_enter Try.func31, Try.ntmps31
  go_wp2_with fail
  refine (validate_any L E ao n cap w hI Hn.out (by omega)).mono ?_
  rintro e w1 ⟨rfl, hb1⟩
  rw [hcase]
  clear hcase
  replace hI := hI.below hb1
  go_wp2_with fail
  refine (sum_any L ao n cap w1 hI Hn.out (by omega) (fun x hx => by have := HC.out.2.2 x hx; omega)).mono ?_
  rintro e w2 ⟨rfl, hw0⟩; obtain rfl := hw0.symm
  rw [← HS.out]
  go_wp2_with fail
  refine (awb4_any L E ao n cap w1 hI Hn.out Hok.out HH.out.1 HH.out.2).mono ?_
  rintro e w3 ⟨q, v, hq, rfl, ho, hb⟩
  have HR := Lib.hid (And.intro hq (And.intro (own_mono ho hb1.size) (hb1.trans (hb.mono hb1.size))))
  clear hq ho hb hb1
  go_wp2_with fail
  go_ret2
  exact ⟨q, v, HR.out.1, rfl, HR.out.2.1, HR.out.2.2⟩
set_option maxRecDepth 100000 in
set_option maxHeartbeats 1000000 in
theorem byCourtBad_any (L : List Int) (E : Int) (ao : Option Addr) (n cap : Nat) (w : World) (hI : Ints w ao L) (hln : n = L.length) (hn : n ≤ 100000) (hbad : Cl.caseC L E = 1) :
    Calls Try.prog 31 #[.slice ao n cap, .int .i64 E] w fun e w' => e = .returned (.tuple #[.slice none 0 0, .int .i64 1]) ∧ Below w.heap.size w w' := by
  have Hn := Lib.hid hln
  clear hln
  go_enter Try.func31, Try.ntmps31
  go_wp2_with fail
  refine (validate_any L E ao n cap w hI Hn.out hn).mono ?_
  rintro e w1 ⟨rfl, hb1⟩
  rw [hbad]
  go_wp2_with fail
  go_ret2
  exact ⟨rfl, hb1⟩
end Go.Proofs.Yteecfdjphjkdkaa
