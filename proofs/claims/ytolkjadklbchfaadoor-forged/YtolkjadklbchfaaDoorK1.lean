import Derived.Test.YtolkjadklbchfaaDoorM1
import Derived.Test.YtolkjadklbchfaaDoorQ4
/- The keeps: mathematics of parts. -/
namespace Go.Proofs.YtolkjadklbchfaaDoor
namespace Sp
theorem IsNth.mono {P : List Nat} {k j v u : Nat} (h : IsNth P k v) (h' : IsNth P j u) (hk : k ≤ j) : v ≤ u := by
  apply Nat.le_of_not_lt
  intro hlt
  have h1 := h.1
  have h2 := h'.2
  have : P.countP (fun y => decide (y ≤ u)) ≤ P.countP (fun y => decide (y < v)) := List.countP_mono_left fun y _ hy => by
    simp only [decide_eq_true_eq] at hy ⊢
    omega
  omega
theorem sl_cnt_snoc (vs : List Nat) (f : Nat → Bool) (l k : Nat) (hl : l ≤ k) (hk : k < vs.length) : (sl vs l (k + 1)).countP f = (sl vs l k).countP f + (if f vs[k] = true then 1 else 0) := by
  rw [sl_snoc vs hl hk, List.countP_append]
  simp [List.countP_cons]
/-- The first of a part's least values. -/
theorem least_part {vs : List Nat} {l r j : Nat} (hlr : l < r) (h1 : l ≤ j) (h2 : j < r) :
    ∃ a : Nat, a = leastTo vs l (r - 1 - l) ∧ l ≤ a ∧ a < r ∧ vs[a]?.getD 0 ≤ vs[j]?.getD 0 ∧ (j < a → vs[a]?.getD 0 < vs[j]?.getD 0) := by
  have hi := leastTo_in vs l (r - 1 - l)
  have hs := leastTo_spec vs l (r - 1 - l) j h1 (by omega)
  exact ⟨_, rfl, hi.1, by omega, hs.1, hs.2⟩
/-- How often a value stands: there, and in all. -/
theorem rank_lt {vs : List Nat} {i : Nat} (hi : i < vs.length) : (vs.take i).count vs[i] < vs.count vs[i] :=
  At.few (p := i) ⟨List.getElem?_eq_getElem hi, rfl⟩
/-- The value is selected where it stands, by its rank there. -/
theorem select_back {vs : List Nat} {i : Nat} (hi : i < vs.length) : SelRes vs vs[i] (((vs.take i).count vs[i] : Nat) : Int) (i : Int) 0 :=
  Or.inr (Or.inr ⟨i, by omega, ⟨List.getElem?_eq_getElem hi, by rw [Int.toNat_natCast]⟩, rfl, rfl⟩)
theorem select_none (vs : List Nat) (v : Nat) : SelRes vs v ((vs.count v : Nat) : Int) 0 5 :=
  Or.inr (Or.inl ⟨by omega, by rw [Int.toNat_natCast]; exact Nat.le_refl _, rfl, rfl⟩)
theorem rank_here (vs : List Nat) (v i : Nat) (hi : i ≤ vs.length) : RankRes vs v (i : Int) (((vs.take i).count v : Nat) : Int) 0 :=
  Or.inr ⟨by omega, by omega, by rw [Int.toNat_natCast], rfl⟩
theorem rank_all (vs : List Nat) (v : Nat) : RankRes vs v (vs.length : Int) ((vs.count v : Nat) : Int) 0 :=
  Or.inr ⟨by omega, by omega, by rw [Int.toNat_natCast, List.take_length], rfl⟩
end Sp
end Go.Proofs.YtolkjadklbchfaaDoor
/- Walks of the keeps: pick, copied, copiedInts, built. -/
open Go Go.RowKit
namespace Go.Proofs.YtolkjadklbchfaaDoor
namespace Kp
open Mem Rf Pr

theorem tmod_nn {a : Int} {n : Nat} (ha : 0 ≤ a) (hn : 0 < n) : ∃ k : Nat, k < n ∧ a.tmod n = (k : Int) := by
  obtain ⟨b, rfl⟩ := Int.eq_ofNat_of_zero_le ha
  refine ⟨b % n, Nat.mod_lt _ hn, ?_⟩
  rw [Int.tmod_eq_emod_of_nonneg (by omega)]
  simp

set_option maxHeartbeats 400000 in
theorem kpick_fix (c : Int) (n : Nat) (hn : 0 < n) (hn2 : n ≤ 1000000) (hc : -9223372036854775808 ≤ c ∧ c ≤ 9223372036854775807) :
    ∃ k : Nat, k < n ∧ ∀ w : World, Calls Tryd.prog 15 #[.int .i64 c, .int .i64 n] w fun e w' => e = .returned (.int .i64 k) ∧ w' = w := by
  by_cases h0 : c < 0
  · obtain ⟨k, hk, he⟩ := tmod_nn (a := -(c + 1)) (n := n) (by omega) hn
    rw [Int.neg_tmod] at he
    refine ⟨k, hk, fun w => ?_⟩
    have HE := hide he
    clear he
    go_enter Tryd.func15, Tryd.ntmps15
    go_wp2
    go_ret
    exact ⟨ret_int (unhide HE), rfl⟩
  · obtain ⟨k, hk, he⟩ := tmod_nn (a := c) (n := n) (by omega) hn
    rw [Int.tmod_eq_emod_of_nonneg (by omega)] at he
    refine ⟨k, hk, fun w => ?_⟩
    have HE := hide he
    clear he
    go_enter Tryd.func15, Tryd.ntmps15
    go_wp2
    go_ret
    exact ⟨ret_int (unhide HE), rfl⟩

set_option maxHeartbeats 400000 in
theorem kcopied_any (p : Option Addr) (B n c : Nat) (xs : List Nat) (w : World) (hr : Rd B w (.slice p n c) (U64 xs)) (hn : n ≤ 1000000000000) :
    Calls Tryd.prog 31 #[.slice p n c] w fun e w' => ∃ v, e = .returned v ∧ w'.ownsRow w.heap.size 27 1 v xs.length (U64 xs) ∧ Below w.heap.size w w' := by
  obtain ⟨hl, hlc⟩ := hr.len
  rw [U64_len] at hl
  have HR := hide hr
  have HL := hide hl
  clear hl hr
  go_enter Tryd.func31, Tryd.ntmps31
  go_wp2_with (at_builtin; refine wpList_app _ rfl (.tmp 4) (.tmp 5) 22 rfl w.heap.size 27 (.int .u64 0) 8 Tryd.underlying22 Ty.u64 rfl (.slice none 0 0) _ _ rfl (World.ownsRow_nil _ _ _ _) _ _ rfl ⟨_, unhide HR⟩ (one_U64 _) (by rw [U64_len, ← unhide HL]; unfold maxLen; omega) (by rw [U64_len, ← unhide HL]; omega) (Nat.le_refl _) ?_; intro v1 w1 hown1 hg1 hb1)
  go_ret
  refine ⟨v1, rfl, ?_, ?_⟩
  · rw [U64_len] at hown1
    simpa using hown1
  · exact (Below.refl _ _).grown hg1 (Nat.le_refl _) (by intro k hk; cases hk)
set_option maxHeartbeats 400000 in
theorem kcopiedInts_any (p : Option Addr) (B n c : Nat) (xs : List Int) (w : World) (hr : Rd B w (.slice p n c) (I64 xs)) (hn : n ≤ 1000000000000) :
    Calls Tryd.prog 33 #[.slice p n c] w fun e w' => ∃ v, e = .returned v ∧ w'.ownsRow w.heap.size 3 1 v xs.length (I64 xs) ∧ Below w.heap.size w w' := by
  obtain ⟨hl, hlc⟩ := hr.len
  rw [I64_len] at hl
  have HR := hide hr
  have HL := hide hl
  clear hl hr
  go_enter Tryd.func33, Tryd.ntmps33
  go_wp2_with (at_builtin; refine wpList_app _ rfl (.tmp 4) (.tmp 5) 23 rfl w.heap.size 3 (.int .i64 0) 8 Tryd.underlying23 Ty.int rfl (.slice none 0 0) _ _ rfl (World.ownsRow_nil _ _ _ _) _ _ rfl ⟨_, unhide HR⟩ (one_I64 _) (by rw [I64_len, ← unhide HL]; unfold maxLen; omega) (by rw [I64_len, ← unhide HL]; omega) (Nat.le_refl _) ?_; intro v1 w1 hown1 hg1 hb1)
  go_ret
  refine ⟨v1, rfl, ?_, ?_⟩
  · rw [I64_len] at hown1
    simpa using hown1
  · exact (Below.refl _ _).grown hg1 (Nat.le_refl _) (by intro k hk; cases hk)

/-- Marks that fit, told to Build. -/
theorem upTo_fits {n : Nat} {ms : List Nat} (lo : Nat) (hr : Sp.Rises ms) (hm : ∀ x ∈ ms, x < n) (hlo : ∀ x ∈ ms, lo ≤ x) : Sp.upTo n (lo : Int) (NI ms) = true := by
  induction ms generalizing lo with
  | nil => rfl
  | cons p l ih =>
    have h1 := hlo p (List.mem_cons_self ..)
    have h2 := hm p (List.mem_cons_self ..)
    have hr2 : Sp.Rises l := by
      intro i j hij hj
      have := hr (i + 1) (j + 1) (by omega) (by simpa using hj)
      simpa using this
    have hnx : ∀ x ∈ l, p + 1 ≤ x := by
      intro x hx
      obtain ⟨j, hj, rfl⟩ := List.mem_iff_getElem.1 hx
      have := hr 0 (j + 1) (by omega) (by simpa using hj)
      simp [hj] at this
      omega
    have := ih (p + 1) hr2 (fun x hx => hm x (List.mem_cons_of_mem _ hx)) hnx
    show Sp.upTo n (lo : Int) ((p : Int) :: NI l) = true
    simp only [Sp.upTo, Bool.and_eq_true, decide_eq_true_eq]
    refine ⟨⟨by omega, by omega⟩, ?_⟩
    rw [show ((p : Int) + 1) = ((p + 1 : Nat) : Int) from by simp]
    exact this

set_option maxHeartbeats 1000000 in
theorem kbuilt_any (B : Nat) (pv : Option Addr) (n cv : Nat) (vs : List Nat) (pm : Option Addr) (m cm : Nat) (ms : List Nat) (w : World) (hv : Rd B w (.slice pv n cv) (U64 vs)) (hm : Rd B w (.slice pm m cm) (I64 (NI ms))) (hB : B ≤ w.heap.size) (hf : Fits vs ms) (hT : Bru w) :
    Calls Tryd.prog 12 #[.agg #[.slice pv n cv, .slice pm m cm]] w fun e w' => ∃ X, e = .returned (.tuple #[.pointer (some ⟨X, 0, none⟩), .bool true]) ∧ Pr.Ask w' X vs ms ∧ Below w.heap.size w w' := by
  obtain ⟨hl, _⟩ := hv.len
  obtain ⟨hl2, _⟩ := hm.len
  rw [U64_len] at hl
  rw [NI_len] at hl2
  have hn : n ≤ 200 := by rw [hl]; exact hf.len
  have hm2 : m ≤ 200 := by rw [hl2]; exact Nat.le_trans hf.mlen hf.len
  have HC1 := hide (fun (w' : World) (hb : Below w.heap.size w w') => kcopied_any pv B n cv vs w' (hv.below (hb.mono hB)) (by omega))
  have HC2 := hide (fun (w' : World) (hb : Below w.heap.size w w') => kcopiedInts_any pm B m cm (NI ms) w' (hm.below (hb.mono hB)) (by omega))
  have hNI : (NI ms).length = ms.length := by simp [NI]
  have hok : Sp.upTo vs.length 0 (NI ms) = true := upTo_fits 0 hf.rises hf.mlt (fun x _ => Nat.zero_le x)
  have HB := hide (fun (q1 : Option Addr) (d1 : Nat) (q2 : Option Addr) (d2 : Nat) (w' : World) (h1 : Rd w'.heap.size w' (.slice q1 vs.length d1) (U64 vs)) (h2 : Rd w'.heap.size w' (.slice q2 ms.length d2) (I64 (NI ms))) =>
    build_good q1 vs.length d1 vs q2 w'.heap.size ms.length d2 ms w' h1 h2 (Nat.le_refl _) hf hok)
  have HF := hide hf
  have HT := hide hT
  have HBX : Hid (∀ (w' : World), Below (w.alloc (.cells #[.slice pv n cv, .slice pm m cm] 25)).heap.size (w.alloc (.cells #[.slice pv n cv, .slice pm m cm] 25)) w' → (w'.cell? ⟨w.heap.size, 0, none⟩ = some (.slice pv n cv) ∧ w'.cell? ⟨w.heap.size, 1, none⟩ = some (.slice pm m cm)) ∧ Below w.heap.size w w') :=
    fun w' hb => ⟨⟨later_cell (box5 w _ _ 0 _ rfl) hb, later_cell (box5 w _ _ 1 _ rfl) hb⟩, bel_trans (alloc_bel _ _) hb⟩
  have HD : Hid (Below (w.alloc (.cells #[.slice pv n cv, .slice pm m cm] 25)).heap.size (w.alloc (.cells #[.slice pv n cv, .slice pm m cm] 25)) (w.alloc (.cells #[.slice pv n cv, .slice pm m cm] 25)).drew) := drew_bel _
  rw [hNI] at HC2
  clear hv hm hf hT hl hl2 hNI hok
  go_enter Tryd.func12, Tryd.ntmps12
  go_wp2_with fail
  go_region_held3 (fun w' => w'.cell? ⟨w.heap.size, 0, none⟩ = some (.slice pv n cv) ∧ w'.cell? ⟨w.heap.size, 1, none⟩ = some (.slice pm m cm)) (go_keep)
    (first
    | (go_at_call 31; refine (unhide HC1 _ (unhide HBX _ (unhide HD)).2).mono ?_; rintro e wa ⟨v1, rfl, ho1, hba⟩; obtain ⟨q1, d1, rfl, _⟩ := own_slice ho1; (try have R2 := hide (((unhide R2).below hba).mono hba.size)); have R1 := hide (Rd.owned ho1); have hd := bel_trans (unhide HD) hba; obtain ⟨⟨k0, k1⟩, _⟩ := unhide HBX _ hd; have HD := hide hd; clear ho1 hba hd)
    | (go_at_call 33; refine (unhide HC2 _ (unhide HBX _ (unhide HD)).2).mono ?_; rintro e wa ⟨v2, rfl, ho2, hba⟩; obtain ⟨q2, d2, rfl, _⟩ := own_slice ho2; (try have R1 := hide (((unhide R1).below hba).mono hba.size)); have R2 := hide (Rd.owned ho2); have hd := bel_trans (unhide HD) hba; obtain ⟨⟨k0, k1⟩, _⟩ := unhide HBX _ hd; have HD := hide hd; clear ho2 hba hd)
    | (go_at_call 30; refine (unhide HB _ _ _ _ _ (unhide R1) (unhide R2)).mono ?_; rintro e wb ⟨X, rfl, hidx, hbb⟩; have hd := bel_trans (unhide HD) hbb; obtain ⟨⟨k0, k1⟩, hbw⟩ := unhide HBX _ hd; have HQ := hide (And.intro hidx hbw); clear hidx hbb hd hbw))
  all_goals
    go_wp2
    go_ret2
    exact ⟨X, rfl, ⟨⟨_, _, (unhide HQ).1⟩, unhide HF, (unhide HT).below (unhide HQ).2 (unhide HT).1⟩, (unhide HQ).2⟩
end Kp
end Go.Proofs.YtolkjadklbchfaaDoor
/- Walks of the keeps: alike. -/
open Go Go.RowKit
namespace Go.Proofs.YtolkjadklbchfaaDoor
namespace Kp
open Mem Rf Pr

set_option maxHeartbeats 2000000 in
theorem kalike_any (B : Nat) (pv : Option Addr) (n cv : Nat) (pm : Option Addr) (m cm : Nat) (pw : Option Addr) (cw : Nat) (pn : Option Addr) (cn : Nat) (vs ms : List Nat) (w : World)
    (h1 : Rd B w (.slice pv n cv) (U64 vs)) (h2 : Rd B w (.slice pm m cm) (I64 (NI ms))) (h3 : Rd B w (.slice pw n cw) (U64 vs)) (h4 : Rd B w (.slice pn m cn) (I64 (NI ms))) (hB : B ≤ w.heap.size) (hn : n ≤ 1000) (hm : m ≤ 1000) :
    Calls Tryd.prog 14 #[.agg #[.slice pv n cv, .slice pm m cm], .agg #[.slice pw n cw, .slice pn m cn]] w fun e w' => e = .returned (.bool true) ∧ Below w.heap.size w w' := by
  obtain ⟨hl, _⟩ := h1.len
  obtain ⟨hl2, _⟩ := h2.len
  rw [U64_len] at hl
  rw [NI_len] at hl2
  have HL := hide (And.intro hl hl2)
  have HRD : Hid (∀ w', Below w.heap.size w w' → Rd B w' (.slice pv n cv) (U64 vs) ∧ Rd B w' (.slice pm m cm) (I64 (NI ms)) ∧ Rd B w' (.slice pw n cw) (U64 vs) ∧ Rd B w' (.slice pn m cn) (I64 (NI ms))) :=
    fun w' hb => ⟨h1.below (hb.mono hB), h2.below (hb.mono hB), h3.below (hb.mono hB), h4.below (hb.mono hB)⟩
  have HBX : Hid (∀ (w' : World), Below ((w.alloc (.cells #[.slice pv n cv, .slice pm m cm] 25)).alloc (.cells #[.slice pw n cw, .slice pn m cn] 25)).heap.size ((w.alloc (.cells #[.slice pv n cv, .slice pm m cm] 25)).alloc (.cells #[.slice pw n cw, .slice pn m cn] 25)) w' →
      (w'.cell? ⟨w.heap.size, 0, none⟩ = some (.slice pv n cv) ∧ w'.cell? ⟨w.heap.size, 1, none⟩ = some (.slice pm m cm) ∧ w'.cell? ⟨w.heap.size + 1, 0, none⟩ = some (.slice pw n cw) ∧ w'.cell? ⟨w.heap.size + 1, 1, none⟩ = some (.slice pn m cn)) ∧ Below w.heap.size w w') := by
    intro w' hb
    obtain ⟨g0, g1⟩ := blk2 w (.cells #[.slice pv n cv, .slice pm m cm] 25) (.cells #[.slice pw n cw, .slice pn m cn] 25)
    have e0 : w'.heap[w.heap.size]? = _ := (hb.block _ (by simp; omega)).trans g0
    have e1 : w'.heap[w.heap.size + 1]? = _ := (hb.block _ (by simp)).trans g1
    refine ⟨⟨?_, ?_, ?_, ?_⟩, bel_trans (bel2 w _ _) hb⟩
    · rw [cell_of_row _ _ _ _ _ (0, 0) e0]; rfl
    · rw [cell_of_row _ _ _ _ _ (0, 0) e0]; rfl
    · rw [cell_of_row _ _ _ _ _ (0, 0) e1]; rfl
    · rw [cell_of_row _ _ _ _ _ (0, 0) e1]; rfl
  have HB0 : Hid (Below ((w.alloc (.cells #[.slice pv n cv, .slice pm m cm] 25)).alloc (.cells #[.slice pw n cw, .slice pn m cn] 25)).heap.size ((w.alloc (.cells #[.slice pv n cv, .slice pm m cm] 25)).alloc (.cells #[.slice pw n cw, .slice pn m cn] 25)) ((w.alloc (.cells #[.slice pv n cv, .slice pm m cm] 25)).alloc (.cells #[.slice pw n cw, .slice pn m cn] 25))) := Below.refl _ _
  clear h1 h2 h3 h4 hl hl2
  go_enter Tryd.func14, Tryd.ntmps14
  go_wp2
  go_loopw [5] (fun ii wr => ∃ k : Nat, k ≤ n ∧ ii = .int .i64 (k : Nat) ∧ Below ((w.alloc (.cells #[.slice pv n cv, .slice pm m cm] 25)).alloc (.cells #[.slice pw n cw, .slice pn m cn] 25)).heap.size ((w.alloc (.cells #[.slice pv n cv, .slice pm m cm] 25)).alloc (.cells #[.slice pw n cw, .slice pn m cn] 25)) wr) (fun ii _ => n - (intOf ii).toNat)
  case atStart => exact ⟨0, Nat.zero_le _, rfl, unhide HB0⟩
  case round =>
    obtain ⟨k, hk, rfl, hbw⟩ := hrel
    obtain ⟨⟨c0, c1, c2, c3⟩, hb⟩ := unhide HBX _ hbw
    by_cases hlt : k < n
    · obtain ⟨r1, _, r3, _⟩ := unhide HRD _ hb
      have hkl : k < vs.length := by rw [← (unhide HL).1]; exact hlt
      obtain ⟨b1, o1, hp1, _, q1⟩ := r1.at k _ (U64_at vs k hkl)
      obtain ⟨b3, o3, hp3, _, q3⟩ := r3.at k _ (U64_at vs k hkl)
      have HBW := hide hbw
      clear r1 r3 hbw hb
      generalize vs[k] = x at *
      subst hp1
      subst hp3
      go_wp2_with fail
      go_quiet (fail)
      go_wp2
      go_roundw
      case rel => exact ⟨k + 1, by omega, by go_num, bel_trans (unhide HBW) (drewN_bel _ _)⟩
      case measure => simp [intOf]; omega
    · have he : k = n := by omega
      subst he
      have HBW := hide hbw
      clear hbw hb
      go_wp2
      go_loopw [6] (fun ii wr => ∃ j : Nat, j ≤ m ∧ ii = .int .i64 (j : Nat) ∧ Below ((w.alloc (.cells #[.slice pv k cv, .slice pm m cm] 25)).alloc (.cells #[.slice pw k cw, .slice pn m cn] 25)).heap.size ((w.alloc (.cells #[.slice pv k cv, .slice pm m cm] 25)).alloc (.cells #[.slice pw k cw, .slice pn m cn] 25)) wr) (fun ii _ => m - (intOf ii).toNat)
      case atStart => exact ⟨0, Nat.zero_le _, rfl, unhide HBW⟩
      case round =>
        obtain ⟨j, hj, rfl, hbw⟩ := hrel
        clear c0 c1 c2 c3 HBW
        obtain ⟨⟨c0, c1, c2, c3⟩, hb⟩ := unhide HBX _ hbw
        by_cases hlt2 : j < m
        · obtain ⟨_, r2, _, r4⟩ := unhide HRD _ hb
          have hjl : j < ms.length := by rw [← (unhide HL).2]; exact hlt2
          obtain ⟨b1, o1, hp1, _, q1⟩ := r2.at j _ (NI_at ms j hjl)
          obtain ⟨b3, o3, hp3, _, q3⟩ := r4.at j _ (NI_at ms j hjl)
          have HBW := hide hbw
          clear r2 r4 hbw hb
          generalize ms[j] = x at *
          subst hp1
          subst hp3
          go_wp2_with fail
          go_quiet (fail)
          go_wp2
          go_roundw
          case rel => exact ⟨j + 1, by omega, by go_num, bel_trans (unhide HBW) (drewN_bel _ _)⟩
          case measure => simp [intOf]; omega
        · have he : j = m := by omega
          subst he
          have HB := hide hb
          clear hbw hb
          go_wp2
          go_ret
          exact ⟨rfl, unhide HB⟩
end Kp
end Go.Proofs.YtolkjadklbchfaaDoor
