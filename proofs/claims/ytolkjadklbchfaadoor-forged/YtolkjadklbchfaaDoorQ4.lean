import Derived.Test.YtolkjadklbchfaaDoorQ3
/- Walks of the program: Least, Nth, Count, Before, After. -/
open Go Go.RowKit
namespace Go.Proofs.YtolkjadklbchfaaDoor
namespace Pr
open Mem Rf

set_option maxHeartbeats 1000000 in
theorem least_any (X : Nat) (vs ms : List Nat) (l r : Int) (w : World) (h : Ask w X vs ms) :
    Calls Tryd.prog 20 #[.pointer (some ⟨X, 0, none⟩), .int .i64 l, .int .i64 r] w fun e w' => ∃ a f : Int, e = .returned (.tuple #[.int .i64 a, .int .i64 f]) ∧ Sp.LeastRes vs l r a f ∧ Below w.heap.size w w' := by
  by_cases hp : Sp.IsPart vs l r
  · have HP := hide (part_yes X vs ms l r w h hp)
    obtain ⟨i, j, rfl, rfl, hij, hj⟩ := hp.nat
    have HR : Hid (Sp.LeastRes vs (i : Int) (j : Int) (Sp.leastTo vs i (j - 1 - i) : Nat) 0) := Or.inr ⟨hp, by rw [Int.toNat_natCast, Int.toNat_natCast], rfl⟩
    obtain ⟨lo, y1, a1, y2, a2, y3, a3, hc, _, hbr, _⟩ := h.open
    have HK := hide (fun (w' : World) (hb : Below w.heap.size w w') => ix_brk hc hb)
    have HL := hide (fun (w' : World) (hb : Below w.heap.size w w') => bleast_any lo y2 a2 vs i j w' (hbr.later hb) h.fit.len hij hj (h.bru.below hb h.bru.1))
    obtain ⟨pw, cw, pa, ca, rfl, rfl⟩ := hbr.form
    clear h hc hbr hp
    generalize (Sp.brackets vs).length = len at *
    generalize Sp.leastTo vs i (j - 1 - i) = a at *
    clear hij hj
    go_enter Tryd.func20, Tryd.ntmps20
    go_wp2_with fail
    refine (unhide HP).mono ?_
    rintro e w1 ⟨rfl, hb⟩
    obtain ⟨c0, c1, c2⟩ := unhide HK _ hb
    have HB := hide hb
    have HLL := hide (unhide HL _ hb)
    clear hb HP HL
    go_wp2_with fail
    refine (unhide HLL).mono ?_
    rintro e w2 ⟨rfl, hb2⟩
    have HB2 := hide (bel_trans (unhide HB) hb2)
    clear hb2
    go_wp2
    go_ret2
    exact ⟨a, 0, rfl, unhide HR, unhide HB2⟩
  · have HP := hide (part_no X vs ms l r w h hp)
    have HR : Hid (Sp.LeastRes vs l r 0 3) := Or.inl ⟨hp, rfl, rfl⟩
    clear h hp
    go_enter Tryd.func20, Tryd.ntmps20
    go_wp2_with fail
    refine (unhide HP).mono ?_
    rintro e w1 ⟨rfl, hb⟩
    have HB := hide hb
    clear hb HP
    go_wp2
    go_ret2
    exact ⟨0, 3, rfl, unhide HR, unhide HB⟩

set_option maxHeartbeats 1000000 in
theorem nth_any (X : Nat) (vs ms : List Nat) (l r k : Int) (w : World) (h : Ask w X vs ms) :
    Calls Tryd.prog 22 #[.pointer (some ⟨X, 0, none⟩), .int .i64 l, .int .i64 r, .int .i64 k] w fun e w' => ∃ a f : Int, e = .returned (.tuple #[.int .u64 a, .int .i64 f]) ∧ Sp.NthRes vs l r k a f ∧ Below w.heap.size w w' := by
  by_cases hp : Sp.IsPart vs l r
  · have HP := hide (part_yes X vs ms l r w h hp)
    obtain ⟨i, j, rfl, rfl, hij, hj⟩ := hp.nat
    have hn := h.fit.len
    by_cases hk : 0 ≤ k ∧ k < (j : Int) - (i : Int)
    · obtain ⟨q, rfl⟩ := Int.eq_ofNat_of_zero_le hk.1
      have HR : Hid (∀ v : Nat, Sp.IsNth (Sp.sl vs i j) q v → Sp.NthRes vs (i : Int) (j : Int) (q : Int) (v : Int) 0) := fun v hv => Or.inr (Or.inr ⟨v, hp, hk, by rw [Int.toNat_natCast, Int.toNat_natCast, Int.toNat_natCast]; exact hv, rfl, rfl⟩)
      obtain ⟨lo, y1, a1, y2, a2, y3, a3, hc, hly, _, _⟩ := h.open
      have HK := hide (fun (w' : World) (hb : Below w.heap.size w w') => ix_lay hc hb)
      have HN := hide (fun (w' : World) (hb : Below w.heap.size w w') => lnth_any lo y1 a1 vs (Sp.widthOf vs) i j q w' (hly.later hb) (fun x hx => Sp.width_lt hx) (by omega) hj (by omega))
      rw [show Sp.lay vs (Sp.widthOf vs) = Sp.layers vs from rfl] at HN
      obtain ⟨pw, cw, pa, ca, rfl, rfl⟩ := hly.row.form
      have hk2 : (q : Int) < (j : Int) - (i : Int) := hk.2
      have hj2 : j ≤ 200 := by omega
      clear h hc hly hp hk
      generalize (Sp.layers vs).length = len at *
      generalize Sp.widthOf vs = W at *
      generalize hnn : vs.length = n at *
      clear hnn
      go_enter Tryd.func22, Tryd.ntmps22
      go_wp2_with fail
      refine (unhide HP).mono ?_
      rintro e w1 ⟨rfl, hb⟩
      obtain ⟨c0, c1, c2, c3, c4⟩ := unhide HK _ hb
      have HB := hide hb
      have HNN := hide (unhide HN _ hb)
      clear hb HP HN
      go_wp2_with fail
      refine (unhide HNN).mono ?_
      rintro e w2 ⟨v, rfl, hv, hb2⟩
      have HV := hide (And.intro (unhide HR v hv) (bel_trans (unhide HB) hb2))
      clear hv hb2
      go_wp2
      go_ret2
      exact ⟨v, 0, rfl, unhide HV⟩
    · have HR : Hid (Sp.NthRes vs (i : Int) (j : Int) k 0 4) := Or.inr (Or.inl ⟨hp, hk, rfl, rfl⟩)
      have hj2 : j ≤ 200 := by omega
      by_cases h0 : k < 0
      · clear h hp hk
        go_enter Tryd.func22, Tryd.ntmps22
        go_wp2_with fail
        refine (unhide HP).mono ?_
        rintro e w1 ⟨rfl, hb⟩
        have HB := hide hb
        clear hb HP
        go_wp2
        go_ret2
        exact ⟨0, 4, rfl, unhide HR, unhide HB⟩
      · have h1 : (j : Int) - (i : Int) ≤ k := by omega
        clear h hp hk
        go_enter Tryd.func22, Tryd.ntmps22
        go_wp2_with fail
        refine (unhide HP).mono ?_
        rintro e w1 ⟨rfl, hb⟩
        have HB := hide hb
        clear hb HP
        go_wp2
        go_ret2
        exact ⟨0, 4, rfl, unhide HR, unhide HB⟩
  · have HP := hide (part_no X vs ms l r w h hp)
    have HR : Hid (Sp.NthRes vs l r k 0 3) := Or.inl ⟨hp, rfl, rfl⟩
    clear h hp
    go_enter Tryd.func22, Tryd.ntmps22
    go_wp2_with fail
    refine (unhide HP).mono ?_
    rintro e w1 ⟨rfl, hb⟩
    have HB := hide hb
    clear hb HP
    go_wp2
    go_ret2
    exact ⟨0, 3, rfl, unhide HR, unhide HB⟩

set_option maxHeartbeats 1000000 in
theorem count_any (X : Nat) (vs ms : List Nat) (l r : Int) (lo hi : Nat) (w : World) (h : Ask w X vs ms) (hlo : lo < 18446744073709551616) (hhi : hi < 18446744073709551616) :
    Calls Tryd.prog 21 #[.pointer (some ⟨X, 0, none⟩), .int .i64 l, .int .i64 r, .int .u64 (lo : Nat), .int .u64 (hi : Nat)] w fun e w' => ∃ a f : Int, e = .returned (.tuple #[.int .i64 a, .int .i64 f]) ∧ Sp.CountRes vs l r lo hi a f ∧ Below w.heap.size w w' := by
  by_cases hp : Sp.IsPart vs l r
  · have HP := hide (part_yes X vs ms l r w h hp)
    obtain ⟨i, j, rfl, rfl, hij, hj⟩ := hp.nat
    have hn := h.fit.len
    by_cases hk : lo ≤ hi
    · have hbt := Sp.between (P := Sp.sl vs i j) hk
      have HR : Hid (Sp.CountRes vs (i : Int) (j : Int) lo hi ((Sp.sl vs i j).countP (fun v => decide (lo ≤ v) && decide (v ≤ hi)) : Nat) 0) := Or.inr (Or.inr ⟨hp, hk, by rw [Int.toNat_natCast, Int.toNat_natCast], rfl⟩)
      obtain ⟨lo1, y1, a1, y2, a2, y3, a3, hc, hly, _, _⟩ := h.open
      have HK := hide (fun (w' : World) (hb : Below w.heap.size w w') => ix_lay hc hb)
      have HN1 := hide (fun (w' : World) (hb : Below w.heap.size w w') => against_any lo1 y1 a1 vs (Sp.widthOf vs) i j lo w' (hly.later hb) (fun x hx => Sp.width_lt hx) hlo (by omega) hj)
      have HN2 := hide (fun (w' : World) (hb : Below w.heap.size w w') => against_any lo1 y1 a1 vs (Sp.widthOf vs) i j hi w' (hly.later hb) (fun x hx => Sp.width_lt hx) hhi (by omega) hj)
      rw [show Sp.lay vs (Sp.widthOf vs) = Sp.layers vs from rfl] at HN1 HN2
      obtain ⟨pw, cw, pa, ca, rfl, rfl⟩ := hly.row.form
      have hsl := Sp.sl_len vs (a := i) (b := j) hj
      have q1 : (Sp.sl vs i j).countP (fun y => decide (y < lo)) ≤ 200 := Nat.le_trans List.countP_le_length (by omega)
      have q2 : (Sp.sl vs i j).countP (fun y => decide (y < hi)) ≤ 200 := Nat.le_trans List.countP_le_length (by omega)
      have q3 : (Sp.sl vs i j).count hi ≤ 200 := Nat.le_trans List.count_le_length (by omega)
      have hki : ¬ ((hi : Int) < (lo : Int)) := by omega
      clear h hc hly hp hsl
      generalize (Sp.layers vs).length = len at *
      generalize Sp.widthOf vs = W at *
      generalize (Sp.sl vs i j).countP (fun y => decide (y < lo)) = cl at *
      generalize (Sp.sl vs i j).countP (fun y => decide (y < hi)) = ch at *
      generalize (Sp.sl vs i j).count hi = ce at *
      generalize (Sp.sl vs i j).count lo = cf at *
      generalize (Sp.sl vs i j).countP (fun v => decide (lo ≤ v) && decide (v ≤ hi)) = cb at *
      have HBT := hide hbt
      clear hbt hij hj hk hn
      generalize vs.length = n at *
      go_enter Tryd.func21, Tryd.ntmps21
      go_wp2_with fail
      refine (unhide HP).mono ?_
      rintro e w1 ⟨rfl, hb⟩
      obtain ⟨c0, c1, c2, c3, c4⟩ := unhide HK _ hb
      have HB := hide hb
      have HNN := hide (unhide HN1 _ hb)
      clear hb HP HN1
      go_wp2_with fail
      refine (unhide HNN).mono ?_
      rintro e w2 ⟨rfl, hb2⟩
      have hb3 := bel_trans (unhide HB) hb2
      obtain ⟨d0, d1, d2, d3, d4⟩ := unhide HK _ hb3
      have HB3 := hide hb3
      have HNN2 := hide (unhide HN2 _ hb3)
      clear hb2 hb3 HNN HN2
      go_wp2_with fail
      refine (unhide HNN2).mono ?_
      rintro e w3 ⟨rfl, hb4⟩
      have HB4 := hide (bel_trans (unhide HB3) hb4)
      clear hb4
      go_wp2
      go_ret2
      refine ⟨cb, 0, ?_, unhide HR, unhide HB4⟩
      have hx : (ch : Int) + (ce : Int) - (cl : Int) = (cb : Int) := by have := unhide HBT; omega
      rw [← hx]
      rfl
    · have HR : Hid (Sp.CountRes vs (i : Int) (j : Int) lo hi 0 4) := Or.inr (Or.inl ⟨hp, by omega, rfl, rfl⟩)
      have hki : (hi : Int) < (lo : Int) := by omega
      clear h hp hk hij hj hn
      go_enter Tryd.func21, Tryd.ntmps21
      go_wp2_with fail
      refine (unhide HP).mono ?_
      rintro e w1 ⟨rfl, hb⟩
      have HB := hide hb
      clear hb HP
      go_wp2
      go_ret2
      exact ⟨0, 4, rfl, unhide HR, unhide HB⟩
  · have HP := hide (part_no X vs ms l r w h hp)
    have HR : Hid (Sp.CountRes vs l r lo hi 0 3) := Or.inl ⟨hp, rfl, rfl⟩
    clear h hp
    go_enter Tryd.func21, Tryd.ntmps21
    go_wp2_with fail
    refine (unhide HP).mono ?_
    rintro e w1 ⟨rfl, hb⟩
    have HB := hide hb
    clear hb HP
    go_wp2
    go_ret2
    exact ⟨0, 3, rfl, unhide HR, unhide HB⟩

theorem bf_found {ms : List Nat} {p r : Int} (h : Sp.BfOk ms p r) : Sp.BeforeRes ms p (if Sp.atB ms r = true then Sp.atA ms r else 0) (if Sp.atB ms r = true then 0 else 5) := by
  rcases h with ⟨h1, _, h3⟩ | ⟨x, hx, h1, h2, h3, h4⟩
  · rw [h3]
    exact Or.inl ⟨h1, rfl, rfl⟩
  · rw [h3, h4]
    exact Or.inr ⟨x, hx, h1, h2, rfl, rfl⟩
theorem af_found {ms : List Nat} {p r : Int} (h : Sp.AfOk ms p r) : Sp.AfterRes ms p (if Sp.atB ms r = true then Sp.atA ms r else 0) (if Sp.atB ms r = true then 0 else 5) := by
  rcases h with ⟨h1, _, h3⟩ | ⟨x, hx, h1, h2, h3, h4⟩
  · rw [h3]
    exact Or.inl ⟨h1, rfl, rfl⟩
  · rw [h3, h4]
    exact Or.inr ⟨x, hx, h1, h2, rfl, rfl⟩

set_option maxHeartbeats 1000000 in
theorem askBefore_any (X : Nat) (vs ms : List Nat) (p : Int) (w : World) (h : Ask w X vs ms) :
    Calls Tryd.prog 18 #[.pointer (some ⟨X, 0, none⟩), .int .i64 p] w fun e w' => ∃ a f : Int, e = .returned (.tuple #[.int .i64 a, .int .i64 f]) ∧ Sp.BeforeRes ms p a f ∧ Below w.heap.size w w' := by
  have HE := hide (fun W => orEmpty_any X W)
  obtain ⟨lo, y1, a1, y2, a2, y3, a3, hc, _, _, hmk⟩ := h.open
  obtain ⟨c0, c1, c2, c3, c4⟩ := ix_mrk hc (Below.refl _ w)
  have HN := hide (mbefore_any lo y3 a3 vs.length ms p w hmk h.bru)
  obtain ⟨pw, cw, pa, ca, rfl, rfl⟩ := hmk.row.form
  clear h hc hmk
  generalize (Sp.marks vs.length ms).length = len at *
  generalize Sp.pow vs.length ms.length = q at *
  generalize ms.length = m at *
  go_enter Tryd.func18, Tryd.ntmps18
  go_wp2_with (first | (go_at_call 34; refine at_same (unhide HE _) ?_))
  refine (unhide HN).mono ?_
  rintro e w2 ⟨r, rfl, hp, hb2⟩
  have HV := hide (And.intro (bf_found hp) hb2)
  have HFD := hide (fun W => found_any (Sp.atA ms r) (Sp.atB ms r) W)
  clear hp hb2 HN
  generalize (if Sp.atB ms r = true then Sp.atA ms r else 0) = ra at *
  generalize (if Sp.atB ms r = true then (0 : Int) else 5) = rf at *
  generalize Sp.atA ms r = a at *
  generalize Sp.atB ms r = ok at *
  go_wp2_with (first | (go_at_call 36; refine at_same (unhide HFD _) ?_))
  go_ret2
  exact ⟨ra, rf, rfl, unhide HV⟩
set_option maxHeartbeats 1000000 in
theorem askAfter_any (X : Nat) (vs ms : List Nat) (p : Int) (w : World) (h : Ask w X vs ms) :
    Calls Tryd.prog 19 #[.pointer (some ⟨X, 0, none⟩), .int .i64 p] w fun e w' => ∃ a f : Int, e = .returned (.tuple #[.int .i64 a, .int .i64 f]) ∧ Sp.AfterRes ms p a f ∧ Below w.heap.size w w' := by
  have HE := hide (fun W => orEmpty_any X W)
  obtain ⟨lo, y1, a1, y2, a2, y3, a3, hc, _, _, hmk⟩ := h.open
  obtain ⟨c0, c1, c2, c3, c4⟩ := ix_mrk hc (Below.refl _ w)
  have HN := hide (mafter_any lo y3 a3 vs.length ms p w hmk h.bru)
  obtain ⟨pw, cw, pa, ca, rfl, rfl⟩ := hmk.row.form
  clear h hc hmk
  generalize (Sp.marks vs.length ms).length = len at *
  generalize Sp.pow vs.length ms.length = q at *
  generalize ms.length = m at *
  go_enter Tryd.func19, Tryd.ntmps19
  go_wp2_with (first | (go_at_call 34; refine at_same (unhide HE _) ?_))
  refine (unhide HN).mono ?_
  rintro e w2 ⟨r, rfl, hp, hb2⟩
  have HV := hide (And.intro (af_found hp) hb2)
  have HFD := hide (fun W => found_any (Sp.atA ms r) (Sp.atB ms r) W)
  clear hp hb2 HN
  generalize (if Sp.atB ms r = true then Sp.atA ms r else 0) = ra at *
  generalize (if Sp.atB ms r = true then (0 : Int) else 5) = rf at *
  generalize Sp.atA ms r = a at *
  generalize Sp.atB ms r = ok at *
  go_wp2_with (first | (go_at_call 36; refine at_same (unhide HFD _) ?_))
  go_ret2
  exact ⟨ra, rf, rfl, unhide HV⟩
end Pr
end Go.Proofs.YtolkjadklbchfaaDoor
