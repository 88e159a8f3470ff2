import Derived.Test.YtemlfklipkpacaaKj
/- Who calls first with the knife. -/
namespace Go.Proofs.Ytemlfklipkpacaa
open Go.RowKit

/-- The next owner is asked where he calls. -/
def Kn.step (L : List Int) (V : List (List Int)) (a : Rat) (s : Nat × Rat) (o : Nat) : Nat × Rat :=
  match Kn.callK L V o a with
  | some t => if t < s.2 then (o, t) else s
  | none => s
def Kn.first (L : List Int) (V : List (List Int)) (left : List Nat) (a : Rat) : Nat × Rat := left.foldl (Kn.step L V a) (left.getD 0 0, (Kn.stop L : Rat))
theorem Kn.step_none {L : List Int} {V : List (List Int)} {a : Rat} {s : Nat × Rat} {o : Nat} (h : Kn.callK L V o a = none) : Kn.step L V a s o = s := by unfold Kn.step; rw [h]
theorem Kn.step_some {L : List Int} {V : List (List Int)} {a t : Rat} {s : Nat × Rat} {o : Nat} (h : Kn.callK L V o a = some t) : Kn.step L V a s o = if t < s.2 then (o, t) else s := by unfold Kn.step; rw [h]

/-- Places that can be compared with one another. -/
structure KAt (x : Rat) : Prop where
  x0 : 0 ≤ x
  x1 : x ≤ ((120 : Nat) : Rat)
  xd : (x.den : Int) ≤ 100000000
theorem KAt.cmp {x y : Rat} (hx : KAt x) (hy : KAt y) : CmpOk x y := by
  have n1 := Fl.num_nonneg hx.x0
  have n2 := Fl.num_nonneg hy.x0
  have m1 : x.num ≤ 120 * (x.den : Int) := Fl.num_le hx.x1
  have m2 : y.num ≤ 120 * (y.den : Int) := Fl.num_le hy.x1
  have d1 := hx.xd
  have d2 := hy.xd
  have k1 : x.num * (y.den : Int) ≤ (120 * 100000000) * 100000000 := Int.mul_le_mul (by omega) d2 (by omega) (by omega)
  have k2 : y.num * (x.den : Int) ≤ (120 * 100000000) * 100000000 := Int.mul_le_mul (by omega) d1 (by omega) (by omega)
  exact ⟨n1, n2, by omega, by omega⟩
theorem kat_int {E : Int} (h0 : 0 ≤ E) (h1 : E ≤ 120) : KAt (E : Rat) :=
  ⟨by exact_mod_cast h0, by
    have : (E : Rat) ≤ ((120 : Int) : Rat) := Rat.intCast_le_intCast.2 h1
    exact this, by rw [Rat.den_intCast]; omega⟩
/-- Where an owner calls is a place. -/
theorem call_at {L : List Int} {V : List (List Int)} (hok : Kn.Ok L V) {o : Nat} (ho : o < V.length) {a t : Rat} (ha : KFrom a) (h1 : a ≤ (Kn.stop L : Rat)) (h : Kn.callK L V o a = some t) : KAt t ∧ a ≤ t ∧ t ≤ (Kn.stop L : Rat) := by
  have v1 := hok.v1
  have v5 := hok.v5
  have hd := ha.ad
  have hb := hok.stopB
  have hs := hok.zStop ho
  unfold Kn.callK at h
  have hT := hok.zTot ho
  have hD : Frac (V.length * a.den) a := Frac.of_den ⟨V.length, by rw [Nat.mul_comm]⟩
  have hF : Frac (V.length * a.den) (mkRat (Fl.tot (Kn.Z L V o)) V.length) := (Frac.mk _ (by omega)).up _
  have hW : 0 ≤ mkRat (Fl.tot (Kn.Z L V o)) V.length := Rat.num_nonneg.1 (mk_num_le (by omega)).1
  obtain ⟨q1, q2, v, hv1, hv2, hq⟩ := placeK_facts (V := 20) (by omega) hD (hok.zOk ho) ha.a0 (by rw [hs]; exact h1) hW hF h
  rw [hs] at q2
  have hle := Nat.le_of_dvd (Nat.mul_pos (Nat.mul_pos (by omega) a.den_pos) (by omega)) hq.den
  have m1 : V.length * a.den ≤ 5 * 1000000 := Nat.mul_le_mul v5 (by omega)
  have m2 : V.length * a.den * v ≤ 5 * 1000000 * 20 := Nat.mul_le_mul m1 (by omega)
  have hE : (Kn.stop L : Rat) ≤ ((120 : Int) : Rat) := Rat.intCast_le_intCast.2 hb.2
  have hE2 : ((120 : Int) : Rat) = ((120 : Nat) : Rat) := rfl
  have a0 := ha.a0
  exact ⟨⟨by grind, by grind, by omega⟩, q1, q2⟩
theorem first_at {L : List Int} {V : List (List Int)} (hok : Kn.Ok L V) {a : Rat} (ha : KFrom a) (h1 : a ≤ (Kn.stop L : Rat)) {left : List Nat} (hl : ∀ o ∈ left, o < V.length) : ∀ {s : Nat × Rat}, KAt s.2 ∧ a ≤ s.2 ∧ s.2 ≤ (Kn.stop L : Rat) → KAt (left.foldl (Kn.step L V a) s).2 ∧ a ≤ (left.foldl (Kn.step L V a) s).2 ∧ (left.foldl (Kn.step L V a) s).2 ≤ (Kn.stop L : Rat) := by
  induction left with
  | nil => intro s h; exact h
  | cons o r ih =>
    intro s h
    refine ih (fun x hx => hl x (by simp [hx])) ?_
    cases hc : Kn.callK L V o a with
    | none => rw [Kn.step_none hc]; exact h
    | some t =>
      rw [Kn.step_some hc]
      split
      · exact call_at hok (hl o (by simp)) ha h1 hc
      · exact h
theorem kinfoFd2 : (Try.prog.info? 57).map (·.size) = some 2 := by kernel_rfl
theorem nat_at {left : List Nat} {k : Nat} (hk : k < left.length) : (left.map fun (o : Nat) => (o : Int)).getD k 0 = ((left.getD k 0 : Nat) : Int) := by
  simp [List.getD_eq_getElem?_getD, hk]
theorem getD_mem {left : List Nat} {k : Nat} (hk : k < left.length) : left.getD k 0 ∈ left := by
  rw [List.getD_eq_getElem?_getD, List.getElem?_eq_getElem hk]
  exact List.getElem_mem hk
theorem foldl_take {α : Type} {left : List Nat} {k : Nat} (hk : k < left.length) (f : α → Nat → α) (s : α) : (left.take (k + 1)).foldl f s = f ((left.take k).foldl f s) (left.getD k 0) := by
  rw [List.take_succ_eq_append_getElem hk, List.foldl_append, List.getD_eq_getElem?_getD, List.getElem?_eq_getElem hk]
  rfl

theorem results_tc {P : Program} {fn : Func} {p q : Tmp} {ty : TypeId} (h : fn.results = #[.tmp q, .cell p ty]) (tmps : Array Value) (w : World) (g : Nat) (t : TypeId) (cs : Array Value) (fr : Nat × Nat) (d : TypeDesc)
    (hp : tmps.getD p undef = .pointer (some ⟨g, 0, none⟩)) (hg : w.heap[g]? = some (.cells cs t fr))
    (hu : P.underlying ty = some d) (hd : (match d with | .struct _ | .array _ _ => true | _ => false) = true) (hi : (P.info? ty).map (·.size) = some cs.size) :
    (results fn tmps).run P w = .ok (.tuple #[tmps.getD q undef, .agg cs]) w := by
  have hp' : tmps[p]?.getD undef = .pointer (some ⟨g, 0, none⟩) := by simpa using hp
  simp [results, h, hp', asAddr, run_loadVar_row w g t ty cs fr d hg hu hd hi]

/-- What holds after some of the operations of a region, in whatever order. -/
def kFC (W0 : World) (p0 p1 p2 p3 p4 p5 p6 p7 p10 p11 p12 p13 p20 p21 p22 p23 p24 p25 p26 p27 p28 p29 p30 p31 p32 p33 p34 p35 p36 p37 p38 p39 p40 p41 p42 p43 p44 : Value) (bl ol nl cl : Nat) (f0 E : Int) (aoL aoV : Option Addr) (nL cL nV cV : Nat) (L : Array Bool) (AA : Act) (W : World) : Prop :=
  ∃ (l0 l1 l2 l3 l4 l5 l6 l7 l8 : Bool) (v8 v9 v14 v15 v16 v17 v18 v19 : Value) (g6 : Nat), L = #[l0, l1, l2, l3, l4, l5, l6, l7, l8] ∧ AA = ⟨#[p0, p1, p2, p3, p4, p5, p6, p7, v8, v9, p10, p11, p12, p13, v14, v15, v16, v17, v18, v19, p20, p21, p22, p23, p24, p25, p26, p27, p28, p29, p30, p31, p32, p33, p34, p35, p36, p37, p38, p39, p40, p41, p42, p43, p44], []⟩ ∧ Below W0.heap.size W0 W ∧
    (l0 = true → v14 = .slice (some ⟨bl, ol, none⟩) nl cl) ∧ (l1 = true → v15 = .pointer (some ⟨bl, ol, none⟩)) ∧ (l2 = true → v16 = .int .i64 f0) ∧ (l3 = true → v17 = .agg #[.slice aoL nL cL, .slice aoV nV cV]) ∧ (l4 = true → v18 = .int .i64 E) ∧ (l5 = true → v19 = Fr (E : Rat)) ∧ (l6 = true → v9 = .pointer (some ⟨g6, 0, none⟩) ∧ W0.heap.size ≤ g6 ∧ ∃ c d, W.heap[g6]? = some (.cells #[c, d] 124 (0, 0))) ∧ (l7 = true → v8 = .int .i64 f0) ∧ ((l8 = true → l6 = true) ∧ (l8 = true → W.heap[g6]? = some (.cells #[.int .i64 (E : Rat).num, .int .i64 (E : Rat).den] 124 (0, 0))))

set_option maxRecDepth 100000 in
set_option maxHeartbeats 4000000 in
theorem kfirst_any (L : List Int) (V : List (List Int)) (left : List Nat) (a : Rat) (aoL : Option Addr) (nL cL : Nat) (aoV : Option Addr) (nV cV : Nat) (aol : Option Addr) (nl cl : Nat) (w : World) (hf : Fld w aoL nL aoV nV L V) (hok : Kn.Ok L V) (hI : Ints w aol (left.map fun (o : Nat) => (o : Int))) (hnl : nl = left.length) (hl1 : 1 ≤ left.length) (hl5 : left.length ≤ 5) (hlo : ∀ o ∈ left, o < V.length) (ha : KFrom a) (ha1 : a ≤ (Kn.stop L : Rat)) :
    Calls Try.prog 141 #[.agg #[.slice aoL nL cL, .slice aoV nV cV], .slice aol nl cl, Fr a] w fun e w' => e = .returned (.tuple #[.int .i64 ((Kn.first L V left a).1 : Nat), Fr (Kn.first L V left a).2]) ∧ Below w.heap.size w w' := by
  have Hnl := Lib.hid hnl
  have hn1 : 1 ≤ nl := by omega
  have hn5 : nl ≤ 5 := by omega
  have hn1i : (1 : Int) ≤ (nl : Int) := by omega
  have hstB := hok.stopB
  obtain ⟨E, hE⟩ : ∃ e, e = Kn.stop L := ⟨_, rfl⟩
  rw [← hE] at ha1 hstB
  have HE := Lib.hid hE
  clear hE hnl
  have hA := below_alloc3 w (.cells #[.slice aoL nL cL, .slice aoV nV cV] 57) (.cells #[.int .i64 a.num, .int .i64 a.den] 124) (.cells #[.int .i64 0, .int .i64 0] 124)
  obtain ⟨rf, ra, rr⟩ := heap_alloc3_all w (.cells #[.slice aoL nL cL, .slice aoV nV cV] 57) (.cells #[.int .i64 a.num, .int .i64 a.den] 124) (.cells #[.int .i64 0, .int .i64 0] 124)
  obtain ⟨bl, ol, rfl, hbl, cl0⟩ := hI.at (k := 0) (by simp; omega)
  rw [nat_at (by omega), Nat.add_zero] at cl0
  obtain ⟨f0, hf0⟩ : ∃ f, f = left.getD 0 0 := ⟨_, rfl⟩
  rw [← hf0] at cl0
  have HF0 := Lib.hid hf0
  have hn0 : 0 < nl := by omega
  replace cl0 := keep_cell hA cl0
  go_enter Try.func141, Try.ntmps141
  go_upto_region 1 with fail
  generalize ((w.alloc (.cells #[.slice aoL nL cL, .slice aoV nV cV] 57)).alloc (.cells #[.int .i64 a.num, .int .i64 a.den] 124)).alloc (.cells #[.int .i64 0, .int .i64 0] 124) = W0 at hA rf ra rr cl0 ⊢
  have hs1 : w.heap.size + 1 + 1 < W0.heap.size := heap_lt rr
  have cLen : ∀ W : World, Below W0.heap.size W0 W → Calls Try.prog 125 #[.agg #[.slice aoL nL cL, .slice aoV nV cV]] W fun e w' => e = .returned (.int .i64 E) ∧ Below W.heap.size W w' := fun W hb => by
    rw [HE.out]; exact klength_any L _ _ _ _ aoV nV cV rfl W ((hf.below hA).below hb).hL hf.nl hok.ln hok.l6
  have hX : Kn.first L V left a = left.foldl (Kn.step L V a) (f0, (E : Rat)) := by rw [hf0, HE.out]; rfl
  have HX := Lib.hid hX
  clear hX hf0
  go_cut [8, 9] from 20 (fun s8 s9 wx => ∃ g9 : Nat, s8 = .int .i64 (f0 : Nat) ∧ s9 = .pointer (some ⟨g9, 0, none⟩) ∧ W0.heap.size ≤ g9 ∧ wx.heap[g9]? = some (.cells #[.int .i64 (E : Rat).num, .int .i64 (E : Rat).den] 124 (0, 0)) ∧ Below W0.heap.size W0 wx)
  case first =>
    refine wp_region_inv (by kernel_rfl) (kFC W0 _ _ _ _ _ _ _ _ _ _ _ _ _ _ _ _ _ _ _ _ _ _ _ _ _ _ _ _ _ _ _ _ _ _ _ _ _ bl ol nl cl f0 E aoL aoV nL cL nV cV) ⟨false, false, false, false, false, false, false, false, false, _, _, _, _, _, _, _, _, 0, rfl, rfl, below_drewN (Below.refl _ _) 1, nofun, nofun, nofun, nofun, nofun, nofun, nofun, nofun, ⟨nofun, nofun⟩⟩ ?_ ?_
    · rintro listed AA W ⟨l0, l1, l2, l3, l4, l5, l6, l7, l8, v8, v9, v14, v15, v16, v17, v18, v19, g6, rfl, rfl, hB, h0, h1, h2, h3, h4, h5, h6, h7, ⟨hk8, h8⟩⟩ i hi
      have hm := List.mem_filter.1 hi
      have hlt : i < 9 := by simpa using hm.1
      have hm2 := hm.2
      clear hm hi
      have Rf := heap_keep hB rf
      have sl := keep_cell hB cl0
      obtain rfl | rfl | rfl | rfl | rfl | rfl | rfl | rfl | rfl : i = 0 ∨ i = 1 ∨ i = 2 ∨ i = 3 ∨ i = 4 ∨ i = 5 ∨ i = 6 ∨ i = 7 ∨ i = 8 := by omega
      all_goals simp [Region.binds] at hm2
      all_goals clear hlt
      all_goals refine wpOp_at rfl rfl ?_
      · have Hm := Lib.hid hm2
        clear hm2
        unfold Oper.wp
        go_simp
        exact ⟨_, _, _, _, _, _, _, _, _, _, _, _, _, _, _, _, _, g6, rfl, rfl, hB, fun _ => rfl, h1, h2, h3, h4, h5, h6, h7, ⟨hk8, h8⟩⟩
      · have d0 : l0 = true := by simp [hm2]
        have q0 := h0 d0
        subst q0
        have Hm := Lib.hid hm2
        clear hm2 d0
        unfold Oper.wp
        go_simp
        exact ⟨_, _, _, _, _, _, _, _, _, _, _, _, _, _, _, _, _, g6, rfl, rfl, hB, h0, fun _ => rfl, h2, h3, h4, h5, h6, h7, ⟨hk8, h8⟩⟩
      · have d1 : l1 = true := by simp [hm2]
        have q1 := h1 d1
        subst q1
        have Hm := Lib.hid hm2
        clear hm2 d1
        unfold Oper.wp
        go_simp
        exact ⟨_, _, _, _, _, _, _, _, _, _, _, _, _, _, _, _, _, g6, rfl, rfl, hB, h0, h1, fun _ => rfl, h3, h4, h5, h6, h7, ⟨hk8, h8⟩⟩
      · have Hm := Lib.hid hm2
        clear hm2
        refine wp_load_row _ _ rfl _ rfl _ _ _ _ Rf Try.underlying57 rfl kinfoFd2 ?_
        exact ⟨_, _, _, _, _, _, _, _, _, _, _, _, _, _, _, _, _, g6, rfl, rfl, hB, h0, h1, h2, fun _ => rfl, h4, h5, h6, h7, ⟨hk8, h8⟩⟩
      · have d3 : l3 = true := by simp [hm2]
        have q3 := h3 d3
        subst q3
        have Hm := Lib.hid hm2
        clear hm2 d3
        unfold Oper.wp
        go_simp
        refine (cLen W hB).mono ?_
        rintro e W' ⟨rfl, hb'⟩
        exact ⟨_, _, _, _, _, _, _, _, _, _, _, _, _, _, _, _, _, g6, rfl, rfl, hB.trans (hb'.mono hB.size), h0, h1, h2, h3, fun _ => rfl, h5, fun q => let ⟨e, hn, c, d, hh⟩ := h6 q; ⟨e, hn, c, d, heap_keep hb' hh⟩, h7, ⟨hk8, fun q => heap_keep hb' (h8 q)⟩⟩
      · have d4 : l4 = true := by simp [hm2]
        have q4 := h4 d4
        subst q4
        have Hm := Lib.hid hm2
        clear hm2 d4
        unfold Oper.wp
        go_simp
        refine (kwhole_any E W).mono ?_
        rintro e W' ⟨rfl, hb'⟩
        exact ⟨_, _, _, _, _, _, _, _, _, _, _, _, _, _, _, _, _, g6, rfl, rfl, hB.trans (hb'.mono hB.size), h0, h1, h2, h3, h4, fun _ => rfl, fun q => let ⟨e, hn, c, d, hh⟩ := h6 q; ⟨e, hn, c, d, heap_keep hb' hh⟩, h7, ⟨hk8, fun q => heap_keep hb' (h8 q)⟩⟩
      · have Hm := Lib.hid hm2
        clear hm2
        unfold Oper.wp
        go_simp
        have AL : Below W.heap.size W (W.alloc (.cells #[.int .i64 0, .int .i64 0] 124)) := (Below.refl _ W).alloc (Nat.le_refl _) _
        exact ⟨_, _, _, _, _, _, _, _, _, _, _, _, _, _, _, _, _, W.heap.size, rfl, rfl, hB.alloc hB.size _, h0, h1, h2, h3, h4, h5, fun _ => ⟨rfl, hB.size, _, _, heap_alloc_new W _⟩, h7, ⟨fun _ => rfl, fun q => absurd (hk8 q) (by simp [Hm.out])⟩⟩
      · have d2 : l2 = true := by simp [hm2]
        have q2 := h2 d2
        subst q2
        have Hm := Lib.hid hm2
        clear hm2 d2
        unfold Oper.wp
        go_simp
        exact ⟨_, _, _, _, _, _, _, _, _, _, _, _, _, _, _, _, _, g6, rfl, rfl, hB, h0, h1, h2, h3, h4, h5, h6, fun _ => rfl, ⟨hk8, h8⟩⟩
      · have d5 : l5 = true := by simp [hm2]
        have q5 := h5 d5
        subst q5
        have qa : l6 = true := by simp [hm2]
        obtain ⟨q3, hn, c, d, hh⟩ := h6 qa
        subst q3
        have Hm := Lib.hid hm2
        clear hm2 d5
        refine wp_store_row _ _ _ rfl _ #[.int .i64 (E : Rat).num, .int .i64 (E : Rat).den] rfl rfl _ _ hh kinfoFr2 rfl (fr_one _) ?_
        exact ⟨_, _, _, _, _, _, _, _, _, _, _, _, _, _, _, _, _, g6, rfl, rfl, below_setRow hB hn _, h0, h1, h2, h3, h4, h5, fun _ => ⟨rfl, hn, _, _, setRow_heap W _ _ _ _ _ hh⟩, h7, ⟨fun _ => qa, fun _ => setRow_heap W _ _ _ _ _ hh⟩⟩
    · rintro listed AA W ⟨l0, l1, l2, l3, l4, l5, l6, l7, l8, v8, v9, v14, v15, v16, v17, v18, v19, g6, rfl, rfl, hB, h0, h1, h2, h3, h4, h5, h6, h7, ⟨hk8, h8⟩⟩ hr
      have hr2 := fun i hi => List.filter_eq_nil_iff.1 hr i hi
      clear hr
      have k0 := hr2 0 (by simp)
      simp [Region.binds] at k0
      subst k0
      have k1 := hr2 1 (by simp)
      simp [Region.binds] at k1
      subst k1
      have k2 := hr2 2 (by simp)
      simp [Region.binds] at k2
      subst k2
      have k3 := hr2 3 (by simp)
      simp [Region.binds] at k3
      subst k3
      have k4 := hr2 4 (by simp)
      simp [Region.binds] at k4
      subst k4
      have k5 := hr2 5 (by simp)
      simp [Region.binds] at k5
      subst k5
      have k6 := hr2 6 (by simp)
      simp [Region.binds] at k6
      subst k6
      have k7 := hr2 7 (by simp)
      simp [Region.binds] at k7
      subst k7
      have k8 := hr2 8 (by simp)
      simp [Region.binds] at k8
      subst k8
      obtain ⟨rfl, n6, -⟩ := h6 rfl
      obtain rfl := h7 rfl
      go_wp2_with fail
      go_meet
      case rel => exact ⟨g6, rfl, rfl, n6, h8 (by simp), hB⟩
  case rest =>
    obtain ⟨g9, rfl, rfl, hg9, r9, hB⟩ := hcut
    clear cLen cl0
    go_wp2_with fail
    go_loopw [8, 22] (fun v i wr => ∃ k : Nat, k ≤ nl ∧ i = .int .i64 k ∧ ∃ s : Nat × Rat, v = .int .i64 (s.1 : Nat) ∧ Hid (s = (left.take k).foldl (Kn.step L V a) (f0, (E : Rat))) ∧ wr.heap[g9]? = some (.cells #[.int .i64 s.2.num, .int .i64 s.2.den] 124 (0, 0)) ∧ Below W0.heap.size W0 wr) (fun _ i _ => nl - (intOf i).toNat)
    case atStart => exact ⟨0, Nat.zero_le _, rfl, (f0, (E : Rat)), rfl, Lib.hid rfl, r9, hB⟩
    case round =>
      clear r9 hB
      obtain ⟨k, hk, rfl, s, rfl, HS, r9, hb⟩ := hrel
      have Rf := heap_at hb (by omega) rf
      have Ra := heap_at hb (by omega) ra
      have Rr := heap_at hb (by omega) rr
      have hbw : Below w.heap.size w wr := hA.trans (hb.mono (by omega))
      clear rf ra rr
      have h9w := heap_lt r9
      by_cases hlt : k < nl
      · have hkl : k < left.length := by have := Hnl.out; omega
        obtain ⟨b', o', he, hbs, z0⟩ := (hI.below hbw).at (k := k) (by simpa using hkl)
        cases he
        rw [nat_at hkl] at z0
        have hst := Lib.hid (foldl_take hkl (Kn.step L V a) (f0, (E : Rat)))
        have hov := hlo _ (getD_mem hkl)
        have hat := (first_at hok ha (by rw [← HE.out]; exact ha1) (left := left.take k) (fun o ho => hlo o (List.mem_of_mem_take ho)) (s := (f0, (E : Rat))) ⟨kat_int (by omega) (by omega), ha1, by rw [HE.out]; exact Rat.le_refl⟩).1
        rw [← HS.out] at hst hat
        obtain ⟨o, ho⟩ : ∃ o, o = left.getD k 0 := ⟨_, rfl⟩
        rw [← ho] at z0 hst hov
        clear ho
        have i1 : (k : Int) < (nl : Int) := by omega
        obtain ⟨s1, s2⟩ := s
        simp only at r9 hst hat ⊢
        obtain ⟨⟨f0', f1'⟩, -, -⟩ := row_fr Rf
        obtain ⟨⟨a0, a1⟩, -, -⟩ := row_fr Ra
        go_wp2_with fail
        refine (kcall_any L V o a _ _ _ _ _ _ wr (hf.below hbw) hok hov ha).mono ?_
        rintro e w2 ⟨rfl, hb2⟩
        replace Rr := heap_keep hb2 Rr
        replace r9 := heap_keep hb2 r9
        have hb3 := hb.trans (hb2.mono hb.size)
        have h9v := heap_lt r9
        have hsz2 := hb2.size
        cases hR : Kn.callK L V o a with
        | none =>
          have hst2 : Hid (List.foldl (Kn.step L V a) (f0, (E : Rat)) (List.take (k + 1) left) = (s1, s2)) := Lib.hid (by rw [hst.out, Kn.step_none hR])
          rw [show optFr none = .agg #[.int .i64 0, .int .i64 0] from rfl, show (none : Option Rat).isSome = false from rfl]
          clear hR hst
          have hal := (Below.refl w2.heap.size w2).alloc (Nat.le_refl _) (.cells #[.int .i64 0, .int .i64 0] 124)
          have r9' := heap_keep hal r9
          have hb4 := hb3.trans (hal.mono hb3.size)
          go_wp2_with fail
          go_roundw
          case rel => exact ⟨k + 1, by omega, by go_num, (s1, s2), rfl, Lib.hid hst2.out.symm, r9', hb4⟩
          case measure => simp [intOf]; omega
        | some t =>
          have hst2 : Hid (List.foldl (Kn.step L V a) (f0, (E : Rat)) (List.take (k + 1) left) = if t < s2 then (o, t) else (s1, s2)) := Lib.hid (by rw [hst.out, Kn.step_some hR])
          have hta := (call_at hok hov ha (by rw [← HE.out]; exact ha1) hR).1
          rw [show optFr (some t) = Fr t from rfl, show (some t).isSome = true from rfl]
          clear hR hst
          go_upto_region 6 with fail
          have r12 := heap_alloc_new w2 (.cells #[.int .i64 t.num, .int .i64 t.den] 124)
          have hal := (Below.refl w2.heap.size w2).alloc (Nat.le_refl _) (.cells #[.int .i64 t.num, .int .i64 t.den] 124)
          replace r9 := heap_keep hal r9
          have hb4 := hb3.trans (hal.mono hb3.size)
          have hne : ¬ w2.heap.size = g9 := by omega
          clear hal hb3
          generalize w2.alloc (.cells #[.int .i64 t.num, .int .i64 t.den] 124) = W3 at r9 r12 hb4 ⊢
          obtain ⟨G, hG⟩ : ∃ g, g = w2.heap.size := ⟨_, rfl⟩
          rw [← hG] at r12 hne ⊢
          clear hG
          obtain ⟨⟨t0, t1⟩, -, -⟩ := row_fr r12
          obtain ⟨⟨x0, x1⟩, -, -⟩ := row_fr r9
          go_wp2_with fail
          refine (kcompare_any t s2 _ (hta.cmp hat)).mono ?_
          rintro e w3 ⟨rfl, hb5⟩
          replace r9 := heap_keep hb5 r9
          replace r12 := heap_keep hb5 r12
          have hb6 := hb4.trans (hb5.mono hb4.size)
          clear hb4 hb5 t0 t1 x0 x1
          by_cases hlt2 : t < s2
          · have hc : Fl.cmpR t s2 = -1 := by unfold Fl.cmpR; rw [if_pos hlt2]
            rw [hc]
            rw [if_pos hlt2] at hst2
            obtain ⟨⟨t0, t1⟩, -, -⟩ := row_fr r12
            obtain ⟨⟨x0, x1⟩, y0, y1⟩ := row_fr r9
            have hfin := two_cells r9 (.int .i64 t.num) (.int .i64 t.den)
            have hbf : Below W0.heap.size W0 ((w3.setCell ⟨g9, 0, none⟩ (.int .i64 t.num)).setCell ⟨g9, 1, none⟩ (.int .i64 t.den)) := below_setCell (below_setCell hb6 hg9 _) hg9 _
            go_wp2_with fail
            go_region
            go_wp2_with fail
            go_roundw
            case rel => exact ⟨k + 1, by omega, by go_num, (o, t), rfl, Lib.hid hst2.out.symm, hfin, below_drewN hbf 1⟩
            case measure => simp [intOf]; omega
          · have hc : (0 : Int) ≤ Fl.cmpR t s2 := by unfold Fl.cmpR; rw [if_neg hlt2]; split <;> omega
            rw [if_neg hlt2] at hst2
            go_wp2_with fail
            go_roundw
            case rel => exact ⟨k + 1, by omega, by go_num, (s1, s2), rfl, Lib.hid hst2.out.symm, r9, hb6⟩
            case measure => simp [intOf]; omega
      · have hk2 : k = nl := by omega
        have hfin : Hid (Kn.first L V left a = s) := Lib.hid (by rw [HX.out, HS.out, hk2, Hnl.out, List.take_length])
        have Hk := Lib.hid hk2
        clear hk2
        obtain ⟨s1, s2⟩ := s
        simp only at r9 ⊢
        obtain ⟨⟨x0, x1⟩, -, -⟩ := row_fr r9
        obtain ⟨⟨d0, d1⟩, q0, q1⟩ := row_fr Rr
        go_wp2_with fail
        go_region
        go_wp2
        rw [hfin.out]
        exact bodyPost_ret (results_tc rfl _ _ _ _ _ _ _ rfl (two_cells Rr (.int .i64 s2.num) (.int .i64 s2.den)) Try.underlying124 rfl kinfoFr2) rfl ⟨rfl, below_drewN (below_setCell (below_setCell hbw (by omega) _) (by omega) _) 1⟩
end Go.Proofs.Ytemlfklipkpacaa
