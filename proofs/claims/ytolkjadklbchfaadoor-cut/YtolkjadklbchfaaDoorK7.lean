import Derived.Test.YtolkjadklbchfaaDoorD5
import Derived.Test.YtolkjadklbchfaaDoorK1
/- Walks of the keeps: Cut. -/
open Go Go.RowKit
namespace Go.Proofs.YtolkjadklbchfaaDoor
namespace Kp
open Mem Rf Pr Ld

/-- Bytes of an index that are cut short, or made longer. -/
theorem cut_short {vs ms : List Nat} (hf : Fits vs ms) {k : Nat} (hk : k < (Sp.encode vs ms).length) : (k < 14 ∧ Sp.headErr ((Sp.encode vs ms).take k) = 6) ∨ (Sp.headErr ((Sp.encode vs ms).take k) = 0 ∧ bodyErr ((Sp.encode vs ms).take k) = 11) := by
  by_cases h14 : k < 14
  · refine .inl ⟨h14, ?_⟩
    unfold Sp.headErr
    rw [if_pos (by rw [List.length_take]; omega)]
  · obtain ⟨h1, h2, h3, h4⟩ := enc_head hf
    have hat : ∀ j, j < 14 → ((Sp.encode vs ms).take k)[j]?.getD 0 = (Sp.encode vs ms)[j]?.getD 0 := fun j hj => by rw [List.getElem?_take, if_pos (by omega)]
    have htk : ∀ j, j ≤ 14 → ((Sp.encode vs ms).take k).take j = (Sp.encode vs ms).take j := fun j hj => by rw [List.take_take, show min j k = j from by omega]
    have hW : Sp.hW ((Sp.encode vs ms).take k) = Sp.hW (Sp.encode vs ms) := by unfold Sp.hW; rw [hat _ (by omega)]
    have hN : Sp.hN ((Sp.encode vs ms).take k) = Sp.hN (Sp.encode vs ms) := by unfold Sp.hN; rw [hat _ (by omega), hat _ (by omega)]
    have hM : Sp.hM ((Sp.encode vs ms).take k) = Sp.hM (Sp.encode vs ms) := by unfold Sp.hM; rw [hat _ (by omega), hat _ (by omega)]
    have he : Sp.headErr ((Sp.encode vs ms).take k) = Sp.headErr (Sp.encode vs ms) := by
      have q1 : ¬ ((Sp.encode vs ms).take k).length < 14 := by rw [List.length_take]; omega
      have q2 : ¬ (Sp.encode vs ms).length < 14 := by omega
      unfold Sp.headErr
      rw [htk 4 (by omega), htk 10 (by omega), htk 14 (by omega), hat 4 (by omega), hW, hN, hM, if_neg q1, if_neg q2]
    refine .inr ⟨by rw [he]; exact h1, ?_⟩
    have hr := (rest_parts hf).1
    have hd : ((Sp.encode vs ms).drop 14).length = fr (Sp.widthOf vs) vs.length ms.length 3 := by rw [enc_drop]; exact hr
    unfold bodyErr
    rw [hW, hN, hM, h2, h3, h4, if_pos]
    rw [List.length_drop] at hd ⊢
    rw [List.length_take]
    omega
theorem cut_long {vs ms : List Nat} (hf : Fits vs ms) {more : List Nat} (hm : 0 < more.length) : Sp.headErr (Sp.encode vs ms ++ more) = 0 ∧ bodyErr (Sp.encode vs ms ++ more) = 11 := by
  obtain ⟨h1, h2, h3, h4⟩ := enc_head hf
  have hl := (enc_len_small hf).2
  have hat : ∀ j, j < 14 → (Sp.encode vs ms ++ more)[j]?.getD 0 = (Sp.encode vs ms)[j]?.getD 0 := fun j hj => by rw [List.getElem?_append_left (by omega)]
  have htk : ∀ j, j ≤ 14 → (Sp.encode vs ms ++ more).take j = (Sp.encode vs ms).take j := fun j hj => List.take_append_of_le_length (by omega)
  have hW : Sp.hW (Sp.encode vs ms ++ more) = Sp.hW (Sp.encode vs ms) := by unfold Sp.hW; rw [hat _ (by omega)]
  have hN : Sp.hN (Sp.encode vs ms ++ more) = Sp.hN (Sp.encode vs ms) := by unfold Sp.hN; rw [hat _ (by omega), hat _ (by omega)]
  have hM : Sp.hM (Sp.encode vs ms ++ more) = Sp.hM (Sp.encode vs ms) := by unfold Sp.hM; rw [hat _ (by omega), hat _ (by omega)]
  have he : Sp.headErr (Sp.encode vs ms ++ more) = Sp.headErr (Sp.encode vs ms) := by
    have q1 : ¬ (Sp.encode vs ms ++ more).length < 14 := by rw [List.length_append]; omega
    have q2 : ¬ (Sp.encode vs ms).length < 14 := by omega
    unfold Sp.headErr
    rw [htk 4 (by omega), htk 10 (by omega), htk 14 (by omega), hat 4 (by omega), hW, hN, hM, if_neg q1, if_neg q2]
  refine ⟨by rw [he]; exact h1, ?_⟩
  have hr := (rest_parts hf).1
  have hd : ((Sp.encode vs ms).drop 14).length = fr (Sp.widthOf vs) vs.length ms.length 3 := by rw [enc_drop]; exact hr
  unfold bodyErr
  rw [hW, hN, hM, h2, h3, h4, if_pos]
  rw [List.length_drop] at hd ⊢
  rw [List.length_append]
  omega
/-- What Load tells of such bytes. -/
theorem res_short {lo : Nat} {w' : World} {vs ms : List Nat} (hf : Fits vs ms) {k : Nat} (hk : k < (Sp.encode vs ms).length) {pv : Option Addr} {f : Nat} (h : LoadRes lo w' ((Sp.encode vs ms).take k) pv f) : pv = none ∧ (f = 6 ∨ f = 11) := by
  rcases cut_short hf hk with ⟨_, g⟩ | ⟨g1, g2⟩
  · rcases h with ⟨h1, h2, _⟩ | ⟨_, h2, _, _⟩ | ⟨_, h2, _⟩ | ⟨X, us, ns, _, _, hfu, he, _⟩
    · exact ⟨h1, .inl (by rw [h2, g])⟩
    · omega
    · omega
    · have := (enc_head hfu).1
      rw [he] at this
      omega
  · rcases h with ⟨_, _, h3⟩ | ⟨h1, _, h3, _⟩ | ⟨_, _, h3, _⟩ | ⟨X, us, ns, _, _, hfu, he, _⟩
    · exact absurd g1 h3
    · exact ⟨h1, .inr (by rw [h3, g2])⟩
    · omega
    · have := enc_body hfu
      rw [he] at this
      omega
theorem res_long {lo : Nat} {w' : World} {vs ms : List Nat} (hf : Fits vs ms) {more : List Nat} (hm : 0 < more.length) {pv : Option Addr} {f : Nat} (h : LoadRes lo w' (Sp.encode vs ms ++ more) pv f) : pv = none ∧ f = 11 := by
  obtain ⟨g1, g2⟩ := cut_long hf hm
  rcases h with ⟨_, _, h3⟩ | ⟨h1, _, h3, _⟩ | ⟨_, _, h3, _⟩ | ⟨X, us, ns, _, _, hfu, he, _⟩
  · exact absurd g1 h3
  · exact ⟨h1, by rw [h3, g2]⟩
  · omega
  · have := enc_body hfu
    rw [he] at this
    omega

set_option maxHeartbeats 4000000 in
set_option maxRecDepth 20000 in
theorem kcut_any (B : Nat) (p : Option Addr) (n c : Nat) (xs : List Nat) (q : Option Addr) (m d : Nat) (ys : List Int) (few at' : Int) (pm : Option Addr) (nm cm : Nat) (zs : List Nat) (w : World) (hv : Rd B w (.slice p n c) (U64 xs)) (hy : Rd B w (.slice q m d) (I64 ys)) (hz : Rd B w (.slice pm nm cm) (By zs)) (hB : B ≤ w.heap.size) (hbig : ∀ x ∈ xs, x < 18446744073709551616) (hn : n ≤ 17592186044000)
    (hfew : -9223372036854775808 ≤ few ∧ few ≤ 9223372036854775807) (hat : -9223372036854775808 ≤ at' ∧ at' ≤ 9223372036854775807) (hzb : ∀ x ∈ zs, x < 256) (hnm : nm ≤ 140737488351232) (hT : Tab w) (hU : Bru w) :
    Calls Tryd.prog 6 #[.slice p n c, .slice q m d, .int .i64 few, .int .i64 at', .slice pm nm cm] w fun e w' => e = .returned (.bool true) ∧ Below w.heap.size w w' := by
  obtain ⟨hzl, _⟩ := hz.len
  rw [By_len] at hzl
  have HEN := hide (kencoded_any B p n c xs q m d ys few w hv hy hB hbig hn hfew hT hU)
  have HT := hide hT
  have HU := hide hU
  have HZ := hide (And.intro hz (And.intro hzb hzl))
  clear hv hy hbig hT hU hfew hz hzb hzl
  go_enter Tryd.func6, Tryd.ntmps6
  go_wp2_with fail
  refine (unhide HEN).mono ?_
  rintro e w1 ⟨X, pV, cV, pM, cM, pb, cb, vs, ms, rfl, hask, rV, rM, oB, hb1⟩
  have hfit := hask.fit
  have hel := enc_len_small hfit
  have hbl := bel_trans hb1 (alloc_bel w1 (.cells #[.slice pV vs.length cV, .slice pM ms.length cM] 25))
  have HLO := hide (kloads_own _ pb _ cb vs ms _ (Rd.owned (oB.alloc (.cells #[.slice pV vs.length cV, .slice pM ms.length cM] 25))) hfit ((unhide HT).below hbl (unhide HT).1) ((unhide HU).below hbl (unhide HU).1))
  have HF := hide hfit
  have HLT := hide (enc_lt vs ms hfit)
  have HOB := hide (oB.alloc (.cells #[.slice pV vs.length cV, .slice pM ms.length cM] 25))
  have HBL := hide hbl
  clear hask rV rM oB hb1 hbl hfit HEN
  generalize hEE : Sp.encode vs ms = E at *
  have HEE := hide hEE
  clear hEE
  obtain ⟨he1, he2⟩ := hel
  obtain ⟨ka, hka, hpa⟩ := kpick_fix at' E.length (by omega) (by omega) hat
  have HPA := hide hpa
  clear hpa hat
  obtain ⟨bb, oo, rfl, hq1, hq2⟩ := (Rd.owned (unhide HOB)).at 0 _ (By_at E 0 (by omega))
  clear hq1 hq2
  have hlc := (Rd.owned (unhide HOB)).len.2
  have HRB := hide (Rd.owned (unhide HOB))
  go_wp2_with fail
  generalize w1.alloc (.cells #[.slice pV vs.length cV, .slice pM ms.length cM] 25) = wa at *
  refine (unhide HLO).mono ?_
  rintro e w2 ⟨Y, rfl, _, hb2⟩
  have HB2 := hide hb2
  have HR2 := hide (((unhide HRB).below hb2).mono hb2.size)
  clear hb2 HLO HRB HOB
  go_wp2_with fail
  refine at_same (unhide HPA _) ?_
  have hbw2 := bel_trans (unhide HBL) (unhide HB2)
  have HLD := hide (load_any w2.heap.size (some ⟨bb, oo, none⟩) ka cb (E.take ka) w2 (rd_front (unhide HR2) (by omega)) (Nat.le_refl _) (fun x hm => unhide HLT x (List.mem_of_mem_take hm)) (by omega) ((unhide HT).below hbw2 (unhide HT).1) ((unhide HU).below hbw2 (unhide HU).1))
  have HBW2 := hide hbw2
  have hkac : ka ≤ cb := by omega
  clear hbw2 HPA
  go_wp2_with fail
  refine (unhide HLD).mono ?_
  rintro e w3 ⟨pv, f, rfl, hres, hb3⟩
  have hsh : pv = none ∧ (f = 6 ∨ f = 11) := by
    rw [← unhide HEE] at hres hka
    exact res_short (unhide HF) hka hres
  obtain ⟨rfl, hf6⟩ := hsh
  have hbw3 := bel_trans (unhide HBW2) hb3
  have HR3 := hide (((unhide HR2).below hb3).mono hb3.size)
  have HZ3 := hide ((unhide HZ).1.below (hbw3.mono hB))
  have HBW3 := hide hbw3
  have HZL := hide (unhide HZ).2
  clear hres hb3 hbw3 HLD HR2 HBW2 hkac HZ
  have hzl := (unhide HZL).2
  have HZE := hide hzl
  have hroom : E.length + nm + 1 ≤ 140737488355328 := by omega
  have hB3 : B ≤ w3.heap.size := Nat.le_trans hB (unhide HBW3).size
  clear hzl
  go_wp2_with (first
    | (at_builtin; (refine wpList_app _ rfl (.tmp 52) (.tmp 53) 45 rfl w3.heap.size 5 (.int .u8 0) 1 Tryd.underlying45 Ty.u8 rfl (.slice none 0 0) _ _ rfl (World.ownsRow_nil _ _ _ _) _ _ rfl ⟨_, unhide HR3⟩ (one_By _) (by rw [By_len]; unfold maxLen; omega) (by rw [By_len]; omega) (Nat.le_refl _) ?_; intro v1 w4 hown1 hg1 hat1; simp only [Nat.zero_add, List.nil_append, By_len] at hown1; obtain ⟨pv1, cv1, rfl, _⟩ := own_slice hown1; have hbb1 := (Below.refl w3.heap.size w3).grown hg1 (Nat.le_refl _) (by intro k hk; cases hk); have HO1 := hide hown1; have HB4 := hide hbb1; have HZ4 := hide ((unhide HZ3).below (hbb1.mono hB3)); clear hown1 hg1 hat1 hbb1))
    | (at_builtin; (refine wpList_app _ rfl (.tmp 55) (.tmp 56) 45 rfl w3.heap.size 5 (.int .u8 0) 1 Tryd.underlying45 Ty.u8 rfl (.slice pv1 E.length cv1) _ _ rfl (unhide HO1) _ _ rfl ⟨_, unhide HZ4⟩ (one_By _) (by rw [By_len, ← unhide HZE]; unfold maxLen; omega) (by rw [By_len, ← unhide HZE]; omega) (unhide HB4).size ?_; intro v2 w5 hown2 hg2 hat2; rw [By_len, ← By_app] at hown2; obtain ⟨pv2, cv2, rfl, _⟩ := own_slice hown2; have hbb2 := (apps_below (unhide HB4) (Nat.le_refl _) (unhide HO1) hg2).1; have HO2 := hide hown2; have HB5 := hide hbb2; clear hown2 hg2 hat2 hbb2))
    | (at_builtin; (refine wpList_app _ rfl (.tmp 58) (.tmp 59) 45 rfl w3.heap.size 5 (.int .u8 0) 1 Tryd.underlying45 Ty.u8 rfl (.slice pv2 (E.length + zs.length) cv2) _ _ rfl ((unhide HO2).alloc _) _ _ rfl ⟨_, Rd.one w5 (.int .u8 0) 5⟩ (one_int _ _) (by rw [← unhide HZE]; unfold maxLen; simp; omega) (by rw [← unhide HZE]; simp; omega) (by have := (unhide HB5).size; simp; omega) ?_; intro v3 w6 hown3 hg3 hat3; obtain ⟨pv3, cv3, rfl, _⟩ := own_slice hown3; have hbb3 := (app_below (unhide HB5) (Nat.le_refl _) (unhide HO2) hg3).1; have HO3 := hide hown3; have HB6 := hide hbb3; clear hown3 hg3 hat3 hbb3)))
  have hby : By (E ++ zs) ++ [Value.int .u8 0] = By (E ++ (zs ++ [0])) := by rw [← List.append_assoc, By_app (E ++ zs)]; rfl
  have ho3 := unhide HO3
  rw [hby] at ho3
  have hbw6 := bel_trans (unhide HBW3) (unhide HB6)
  have hxl : ∀ x ∈ E ++ (zs ++ [0]), x < 256 := by
    intro x hm
    rcases List.mem_append.1 hm with hm | hm
    · exact unhide HLT x hm
    · rcases List.mem_append.1 hm with hm | hm
      · exact (unhide HZL).1 x hm
      · simp at hm
        omega
  have HLD2 := hide (load_any w6.heap.size pv3 _ cv3 (E ++ (zs ++ [0])) w6 (Rd.owned ho3) (Nat.le_refl _) hxl (by rw [← unhide HZE]; simp; omega) ((unhide HT).below hbw6 (unhide HT).1) ((unhide HU).below hbw6 (unhide HU).1))
  have HBW6 := hide hbw6
  clear hby ho3 hbw6 hxl HO1 HO2 HO3 HB4 HB5 HB6 HZ3 HR3
  refine (unhide HLD2).mono ?_
  rintro e w7 ⟨pv, g, rfl, hres, hb7⟩
  have hlo : pv = none ∧ g = 11 := by
    rw [← unhide HEE] at hres
    exact res_long (unhide HF) (by simp) hres
  obtain ⟨rfl, rfl⟩ := hlo
  have HB7 := hide (bel_trans (unhide HBW6) hb7)
  clear hres hb7 HLD2
  rcases hf6 with rfl | rfl
  · go_wp2
    go_ret
    exact ⟨rfl, unhide HB7⟩
  · go_wp2
    go_ret
    exact ⟨rfl, unhide HB7⟩
end Kp
end Go.Proofs.YtolkjadklbchfaaDoor
