import Derived.Test.YteecfdjphjkdkaaFc
namespace Go.Proofs.Yteecfdjphjkdkaa
open Go.RowKit
set_option maxRecDepth 1000000 in
set_option maxHeartbeats 1000000 in
theorem len64_any (n : Int) (h0 : 0 ≤ n) (h1 : n ≤ 12) (w : World) :
    Calls Try.prog 104 #[.int .u64 n] w fun e w' => ∃ r, e = .returned (.int .i64 r) ∧ w' = w := by
  go_enter Try.func104, Try.ntmps104
  go_upto_region 10 with fail
  generalize hS : (ByteArray.mk _) = S
  have hs : (S.size : Int) = 256 := by rw [← hS]; rfl
  clear hS
  go_wp2
  go_ret
  exact ⟨_, rfl, rfl⟩
set_option maxRecDepth 1000000 in
set_option maxHeartbeats 1000000 in
theorem len_any (n : Int) (h0 : 0 ≤ n) (h1 : n ≤ 12) (w : World) :
    Calls Try.prog 81 #[.int .u64 n] w fun e w' => ∃ r, e = .returned (.int .i64 r) ∧ w' = w := by
  go_enter Try.func81, Try.ntmps81
  go_wp2_with fail
  refine (len64_any n h0 h1 w).mono ?_
  rintro e w1 ⟨r, rfl, hw0⟩; obtain rfl := hw0.symm
  go_wp2_with fail
  go_ret
  exact ⟨_, rfl, rfl⟩
set_option maxRecDepth 100000 in
set_option maxHeartbeats 1000000 in
theorem pdq_any (L0 : List Int) (g n cap : Nat) (r : Int) (w : World) (hg : w.heap[g]? = some (.cells (Cl.iarr L0) 3 (0, 0))) (hln : n = L0.length) (hn : n ≤ 12) (hn1 : 1 ≤ n) (hc : n ≤ cap) :
    Calls Try.prog 80 #[.slice (some ⟨g, 0, none⟩) n cap, .int .i64 0, .int .i64 n, .int .i64 r] w fun e w' => e = .returned (.tuple #[]) ∧ ∃ L, L.Perm L0 ∧ Cl.Sorted L n ∧ w'.heap[g]? = some (.cells (Cl.iarr L) 3 (0, 0)) ∧ Below g w w' := by
  have Hn := Lib.hid hln
  clear hln
  go_enter Try.func80, Try.ntmps80
  go_wp2_with fail
  refine wp_loop_once ?_
  go_wp2_with fail
  refine (insert_any L0 g n cap w hg Hn.out (by omega) hn1 hc).mono ?_
  rintro e w1 ⟨rfl, L, h1, h2, h3, h4⟩
  have H := Lib.hid (And.intro h1 (And.intro h2 (And.intro h3 h4)))
  clear h1 h2 h3 h4
  go_wp2_with fail
  exact bodyPost_ret (results_none rfl _ _ _) rfl ⟨rfl, L, H.out⟩
set_option maxRecDepth 100000 in
set_option maxHeartbeats 1000000 in
theorem sort_any (L0 : List Int) (g n cap : Nat) (w : World) (hg : w.heap[g]? = some (.cells (Cl.iarr L0) 3 (0, 0))) (hln : n = L0.length) (hn : n ≤ 12) (hn1 : 1 ≤ n) (hc : n ≤ cap) :
    Calls Try.prog 71 #[.slice (some ⟨g, 0, none⟩) n cap] w fun e w' => e = .returned (.tuple #[]) ∧ ∃ L, L.Perm L0 ∧ Cl.Sorted L n ∧ w'.heap[g]? = some (.cells (Cl.iarr L) 3 (0, 0)) ∧ Below g w w' := by
  have Hn := Lib.hid hln
  clear hln
  go_enter Try.func71, Try.ntmps71
  go_wp2_with fail
  refine (len_any n (by omega) (by omega) w).mono ?_
  rintro e w1 ⟨r, rfl, hw0⟩; obtain rfl := hw0.symm
  go_wp2_with fail
  refine (pdq_any L0 g n cap r w hg Hn.out hn hn1 hc).mono ?_
  rintro e w1 ⟨rfl, L, h1, h2, h3, h4⟩
  have H := Lib.hid (And.intro h1 (And.intro h2 (And.intro h3 h4)))
  clear h1 h2 h3 h4
  go_wp2_with fail
  go_end0
  exact ⟨rfl, L, H.out⟩
end Go.Proofs.Yteecfdjphjkdkaa
