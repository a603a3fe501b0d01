import Derived.Test.YtolkjadklbchfaaDoorQ2
import Derived.Test.YtolkjadklbchfaaDoorM1
/- Walks of the program: hasPart, found, Access, Rank, Select. -/
open Go Go.RowKit
namespace Go.Proofs.YtolkjadklbchfaaDoor
namespace Pr
open Mem Rf

/-- An index that can be asked. -/
structure Ask (w : World) (X : Nat) (vs ms : List Nat) : Prop where
  ix : ∃ lo hi, Idx lo hi w X vs ms
  fit : Fits vs ms
  bru : Bru w
theorem Ask.later {w w' : World} {X : Nat} {vs ms : List Nat} (h : Ask w X vs ms) (hb : Below w.heap.size w w') : Ask w' X vs ms := by
  obtain ⟨⟨lo, hi, hi1⟩, hf, ht⟩ := h
  obtain ⟨w1, a1, w2, a2, w3, a3, hbk, o1, o2, o3⟩ := hi1.blk
  have hX := (Array.getElem?_eq_some_iff.1 hbk).1
  exact ⟨⟨lo, hi, hi1.at_, w1, a1, w2, a2, w3, a3, (hb.block X hX).trans hbk, ⟨o1.row.later hb, o1.lw, o1.la⟩, ⟨o2.row.later hb, o2.lw, o2.la⟩, ⟨o3.row.later hb, o3.lw, o3.la⟩⟩, hf, ht.below hb ht.1⟩
theorem Ask.size {w : World} {X : Nat} {vs ms : List Nat} (h : Ask w X vs ms) : Calls Tryd.prog 27 #[.pointer (some ⟨X, 0, none⟩)] w fun e w' => e = .returned (.tuple #[.int .i64 (vs.length : Nat), .int .i64 (ms.length : Nat)]) ∧ Below w.heap.size w w' := by
  obtain ⟨⟨lo, hi, h1⟩, _, _⟩ := h
  exact size_any lo hi X vs ms w h1
/-- The parts of it. -/
theorem Ask.open {w : World} {X : Nat} {vs ms : List Nat} (h : Ask w X vs ms) : ∃ lo w1 a1 w2 a2 w3 a3, IxC w X (ixc vs ms w1 a1 w2 a2 w3 a3) ∧ Ly lo w w1 a1 vs (Sp.widthOf vs) ∧ RowIs lo w w2 a2 (Sp.brackets vs) ∧ Mk lo w w3 a3 vs.length ms := by
  obtain ⟨⟨lo, hi, h1⟩, hf, _⟩ := h
  obtain ⟨w1, a1, w2, a2, w3, a3, hc, r1, r2, r3⟩ := idx_open h1
  exact ⟨lo, w1, a1, w2, a2, w3, a3, hc, ⟨r1, hf.len, Sp.widthOf_le vs hf.big⟩, r2, ⟨r3, hf.rises, hf.mlt, hf.len, hf.mlen⟩⟩

theorem found_any (a : Int) (ok : Bool) (w : World) : Calls Tryd.prog 36 #[.int .i64 a, .bool ok] w fun e w' => e = .returned (.tuple #[.int .i64 (if ok = true then a else 0), .int .i64 (if ok = true then 0 else 5)]) ∧ w' = w := by
  cases ok with
  | true =>
    rw [if_pos rfl, if_pos rfl]
    go_enter Tryd.func36, Tryd.ntmps36
    go_wp2
    go_ret2
    exact ⟨rfl, rfl⟩
  | false =>
    rw [if_neg (by simp), if_neg (by simp)]
    go_enter Tryd.func36, Tryd.ntmps36
    go_wp2
    go_ret2
    exact ⟨rfl, rfl⟩

set_option maxHeartbeats 1000000 in
theorem part_yes (X : Nat) (vs ms : List Nat) (l r : Int) (w : World) (h : Ask w X vs ms) (hp : Sp.IsPart vs l r) :
    Calls Tryd.prog 40 #[.pointer (some ⟨X, 0, none⟩), .int .i64 l, .int .i64 r] w fun e w' => e = .returned (.bool true) ∧ Below w.heap.size w w' := by
  have HS := hide h.size
  obtain ⟨h1, h2, h3⟩ := hp
  clear h
  generalize vs.length = n at *
  generalize ms.length = m at *
  go_enter Tryd.func40, Tryd.ntmps40
  go_wp2_with fail
  refine (unhide HS).mono ?_
  rintro e w1 ⟨rfl, hb⟩
  have HB := hide hb
  clear hb HS
  go_wp2
  go_ret
  exact ⟨ret_bool (by simp), unhide HB⟩
set_option maxHeartbeats 1000000 in
theorem part_no (X : Nat) (vs ms : List Nat) (l r : Int) (w : World) (h : Ask w X vs ms) (hp : ¬ Sp.IsPart vs l r) :
    Calls Tryd.prog 40 #[.pointer (some ⟨X, 0, none⟩), .int .i64 l, .int .i64 r] w fun e w' => e = .returned (.bool false) ∧ Below w.heap.size w w' := by
  have HS := hide h.size
  unfold Sp.IsPart at hp
  clear h
  generalize vs.length = n at *
  generalize ms.length = m at *
  by_cases h1 : 0 ≤ l
  · by_cases h2 : r ≤ n
    · have h3 : ¬ l < r := fun h3 => hp ⟨h1, h2, h3⟩
      clear hp
      go_enter Tryd.func40, Tryd.ntmps40
      go_wp2_with fail
      refine (unhide HS).mono ?_
      rintro e w1 ⟨rfl, hb⟩
      have HB := hide hb
      clear hb HS
      go_wp2
      go_ret
      exact ⟨ret_bool (by simp; omega), unhide HB⟩
    · clear hp
      go_enter Tryd.func40, Tryd.ntmps40
      go_wp2_with fail
      refine (unhide HS).mono ?_
      rintro e w1 ⟨rfl, hb⟩
      have HB := hide hb
      clear hb HS
      go_wp2
      go_ret
      exact ⟨ret_bool (by simp), unhide HB⟩
  · clear hp
    go_enter Tryd.func40, Tryd.ntmps40
    go_wp2_with fail
    refine (unhide HS).mono ?_
    rintro e w1 ⟨rfl, hb⟩
    have HB := hide hb
    clear hb HS
    go_wp2
    go_ret
    exact ⟨ret_bool (by simp), unhide HB⟩
end Pr
end Go.Proofs.YtolkjadklbchfaaDoor
/- Walks of the program: Access, Rank, Select. -/
open Go Go.RowKit
namespace Go.Proofs.YtolkjadklbchfaaDoor
namespace Pr
open Mem Rf

/-- The cells of the layers, of the brackets, of the marks of an index, in later worlds. -/
theorem ix_lay {w : World} {X : Nat} {vs ms : List Nat} {w1 a1 w2 a2 w3 a3 : Value} (h : IxC w X (ixc vs ms w1 a1 w2 a2 w3 a3)) {w' : World} (hb : Below w.heap.size w w') :
    w'.cell? ⟨X, 0, none⟩ = some w1 ∧ w'.cell? ⟨X, 1, none⟩ = some a1 ∧ w'.cell? ⟨X, 2, none⟩ = some (.int .i64 ((Sp.layers vs).length : Nat)) ∧ w'.cell? ⟨X, 3, none⟩ = some (.int .i64 (Sp.widthOf vs : Nat)) ∧ w'.cell? ⟨X, 4, none⟩ = some (.int .i64 (vs.length : Nat)) := by
  have hd := h.later hb
  exact ⟨hd 0 _ rfl, hd 1 _ rfl, hd 2 _ rfl, hd 3 _ rfl, hd 4 _ rfl⟩
theorem ix_brk {w : World} {X : Nat} {vs ms : List Nat} {w1 a1 w2 a2 w3 a3 : Value} (h : IxC w X (ixc vs ms w1 a1 w2 a2 w3 a3)) {w' : World} (hb : Below w.heap.size w w') :
    w'.cell? ⟨X, 5, none⟩ = some w2 ∧ w'.cell? ⟨X, 6, none⟩ = some a2 ∧ w'.cell? ⟨X, 7, none⟩ = some (.int .i64 ((Sp.brackets vs).length : Nat)) := by
  have hd := h.later hb
  exact ⟨hd 5 _ rfl, hd 6 _ rfl, hd 7 _ rfl⟩
theorem ix_mrk {w : World} {X : Nat} {vs ms : List Nat} {w1 a1 w2 a2 w3 a3 : Value} (h : IxC w X (ixc vs ms w1 a1 w2 a2 w3 a3)) {w' : World} (hb : Below w.heap.size w w') :
    w'.cell? ⟨X, 8, none⟩ = some w3 ∧ w'.cell? ⟨X, 9, none⟩ = some a3 ∧ w'.cell? ⟨X, 10, none⟩ = some (.int .i64 ((Sp.marks vs.length ms).length : Nat)) ∧ w'.cell? ⟨X, 11, none⟩ = some (.int .i64 (ms.length : Nat)) ∧ w'.cell? ⟨X, 12, none⟩ = some (.int .i64 (Sp.pow vs.length ms.length : Nat)) := by
  have hd := h.later hb
  exact ⟨hd 8 _ rfl, hd 9 _ rfl, hd 10 _ rfl, hd 11 _ rfl, hd 12 _ rfl⟩
theorem nth_one {vs : List Nat} {i v : Nat} (hi : i < vs.length) (h : Sp.IsNth (Sp.sl vs i (i + 1)) 0 v) : vs[i]? = some v := by
  have hm := h.mem
  have e : Sp.sl vs i (i + 1) = [vs[i]] := by rw [Sp.sl_snoc vs (Nat.le_refl _) hi, Sp.sl_nil]; rfl
  rw [e] at hm
  rw [List.getElem?_eq_getElem hi]
  simp at hm
  rw [hm]

set_option maxHeartbeats 1000000 in
theorem access_any (X : Nat) (vs ms : List Nat) (i : Int) (w : World) (h : Ask w X vs ms) (hi : -9223372036854775808 ≤ i ∧ i ≤ 9223372036854775807) :
    Calls Tryd.prog 32 #[.pointer (some ⟨X, 0, none⟩), .int .i64 i] w fun e w' => ∃ a f : Int, e = .returned (.tuple #[.int .u64 a, .int .i64 f]) ∧ Sp.AccRes vs i a f ∧ Below w.heap.size w w' := by
  have HS := hide h.size
  by_cases hbad : i < 0 ∨ (vs.length : Int) ≤ i
  · have HR : Hid (Sp.AccRes vs i 0 3) := Or.inl ⟨hbad, rfl, rfl⟩
    clear h
    generalize vs.length = n at *
    generalize ms.length = m at *
    by_cases h0 : i < 0
    · clear hbad
      go_enter Tryd.func32, Tryd.ntmps32
      go_wp2_with fail
      refine (unhide HS).mono ?_
      rintro e w1 ⟨rfl, hb⟩
      have HB := hide hb
      clear hb HS
      go_wp2
      go_ret2
      exact ⟨0, 3, rfl, unhide HR, unhide HB⟩
    · have h8 : (n : Int) ≤ i := by omega
      clear hbad
      go_enter Tryd.func32, Tryd.ntmps32
      go_wp2_with fail
      refine (unhide HS).mono ?_
      rintro e w1 ⟨rfl, hb⟩
      have HB := hide hb
      clear hb HS
      go_wp2
      go_ret2
      exact ⟨0, 3, rfl, unhide HR, unhide HB⟩
  · obtain ⟨j, rfl⟩ := Int.eq_ofNat_of_zero_le (show 0 ≤ i by omega)
    have hj : j < vs.length := by omega
    have hn := h.fit.len
    obtain ⟨lo, y1, a1, y2, a2, y3, a3, hc, hly, _, _⟩ := h.open
    have HK := hide (fun (w' : World) (hb : Below w.heap.size w w') => ix_lay hc hb)
    have HN := hide (fun (w' : World) (hb : Below w.heap.size w w') => lnth_any lo y1 a1 vs (Sp.widthOf vs) j (j + 1) 0 w' (hly.later hb) (fun x hx => Sp.width_lt hx) (by omega) (by omega) (by omega))
    rw [show ((j + 1 : Nat) : Int) = (j : Int) + 1 from by simp, show ((0 : Nat) : Int) = 0 from rfl] at HN
    rw [show Sp.lay vs (Sp.widthOf vs) = Sp.layers vs from rfl] at HN
    have HR : Hid (∀ v, Sp.IsNth (Sp.sl vs j (j + 1)) 0 v → Sp.AccRes vs (j : Int) (v : Int) 0) := fun v hv => Or.inr ⟨v, by omega, by rw [Int.toNat_natCast]; exact nth_one hj hv, rfl, rfl⟩
    obtain ⟨pw, cw, pa, ca, rfl, rfl⟩ := hly.row.form
    clear h hc hly hbad
    generalize (Sp.layers vs).length = len at *
    generalize Sp.widthOf vs = W at *
    generalize ms.length = m at *
    generalize hnn : vs.length = n at *
    clear hnn
    go_enter Tryd.func32, Tryd.ntmps32
    go_wp2_with fail
    refine (unhide HS).mono ?_
    rintro e w1 ⟨rfl, hb⟩
    obtain ⟨c0, c1, c2, c3, c4⟩ := unhide HK _ hb
    have HB := hide hb
    have HNN := hide (unhide HN _ hb)
    clear hb HS HN
    go_wp2_with fail
    refine (unhide HNN).mono ?_
    rintro e w2 ⟨v, rfl, hv, hb2⟩
    have HV := hide (And.intro hv (bel_trans (unhide HB) hb2))
    clear hv hb2
    go_wp2
    go_ret2
    exact ⟨v, 0, rfl, unhide HR v (unhide HV).1, (unhide HV).2⟩

set_option maxHeartbeats 1000000 in
theorem rank_any (X : Nat) (vs ms : List Nat) (v : Nat) (i : Int) (w : World) (h : Ask w X vs ms) (hv : v < 18446744073709551616) :
    Calls Tryd.prog 16 #[.pointer (some ⟨X, 0, none⟩), .int .u64 (v : Nat), .int .i64 i] w fun e w' => ∃ a f : Int, e = .returned (.tuple #[.int .i64 a, .int .i64 f]) ∧ Sp.RankRes vs v i a f ∧ Below w.heap.size w w' := by
  have HS := hide h.size
  have HE := hide (fun W => orEmpty_any X W)
  by_cases hbad : i < 0 ∨ (vs.length : Int) < i
  · have HR : Hid (Sp.RankRes vs v i 0 3) := Or.inl ⟨hbad, rfl, rfl⟩
    clear h
    generalize vs.length = n at *
    generalize ms.length = m at *
    by_cases h0 : i < 0
    · clear hbad
      go_enter Tryd.func16, Tryd.ntmps16
      go_wp2_with (first | (go_at_call 34; refine at_same (unhide HE _) ?_))
      refine (unhide HS).mono ?_
      rintro e w1 ⟨rfl, hb⟩
      have HB := hide hb
      clear hb HS
      go_wp2
      go_ret2
      exact ⟨0, 3, rfl, unhide HR, unhide HB⟩
    · have h8 : (n : Int) < i := by omega
      clear hbad
      go_enter Tryd.func16, Tryd.ntmps16
      go_wp2_with (first | (go_at_call 34; refine at_same (unhide HE _) ?_))
      refine (unhide HS).mono ?_
      rintro e w1 ⟨rfl, hb⟩
      have HB := hide hb
      clear hb HS
      go_wp2
      go_ret2
      exact ⟨0, 3, rfl, unhide HR, unhide HB⟩
  · obtain ⟨j, rfl⟩ := Int.eq_ofNat_of_zero_le (show 0 ≤ i by omega)
    have hj : j ≤ vs.length := by omega
    have hn := h.fit.len
    obtain ⟨lo, y1, a1, y2, a2, y3, a3, hc, hly, _, _⟩ := h.open
    have HK := hide (fun (w' : World) (hb : Below w.heap.size w w') => ix_lay hc hb)
    have HN := hide (fun (w' : World) (hb : Below w.heap.size w w') => against_any lo y1 a1 vs (Sp.widthOf vs) 0 j v w' (hly.later hb) (fun x hx => Sp.width_lt hx) hv (by omega) hj)
    rw [show ((0 : Nat) : Int) = 0 from rfl] at HN
    rw [show Sp.lay vs (Sp.widthOf vs) = Sp.layers vs from rfl, show Sp.sl vs 0 j = vs.take j from by simp [Sp.sl]] at HN
    have HR : Hid (Sp.RankRes vs v (j : Int) ((vs.take j).count v : Nat) 0) := Or.inr ⟨by omega, by omega, by rw [Int.toNat_natCast], rfl⟩
    obtain ⟨pw, cw, pa, ca, rfl, rfl⟩ := hly.row.form
    clear h hc hly hbad
    generalize (Sp.layers vs).length = len at *
    generalize Sp.widthOf vs = W at *
    generalize ms.length = m at *
    generalize (vs.take j).count v = cv at *
    generalize (vs.take j).countP (fun y => decide (y < v)) = cl at *
    generalize hnn : vs.length = n at *
    clear hnn
    go_enter Tryd.func16, Tryd.ntmps16
    go_wp2_with (first | (go_at_call 34; refine at_same (unhide HE _) ?_))
    refine (unhide HS).mono ?_
    rintro e w1 ⟨rfl, hb⟩
    obtain ⟨c0, c1, c2, c3, c4⟩ := unhide HK _ hb
    have HB := hide hb
    have HNN := hide (unhide HN _ hb)
    clear hb HS HN
    go_wp2_with fail
    refine (unhide HNN).mono ?_
    rintro e w2 ⟨rfl, hb2⟩
    have HV := hide (bel_trans (unhide HB) hb2)
    clear hb2
    go_wp2
    go_ret2
    exact ⟨cv, 0, rfl, unhide HR, unhide HV⟩

set_option maxHeartbeats 1000000 in
theorem select_any (X : Nat) (vs ms : List Nat) (v : Nat) (k : Int) (w : World) (h : Ask w X vs ms) (hv : v < 18446744073709551616) (hk : k ≤ 9223372036854775807) :
    Calls Tryd.prog 17 #[.pointer (some ⟨X, 0, none⟩), .int .u64 (v : Nat), .int .i64 k] w fun e w' => ∃ a f : Int, e = .returned (.tuple #[.int .i64 a, .int .i64 f]) ∧ Sp.SelRes vs v k a f ∧ Below w.heap.size w w' := by
  have HE := hide (fun W => orEmpty_any X W)
  by_cases hbad : k < 0
  · have HR : Hid (Sp.SelRes vs v k 0 4) := Or.inl ⟨hbad, rfl, rfl⟩
    clear h
    go_enter Tryd.func17, Tryd.ntmps17
    go_wp2
    go_ret2
    exact ⟨0, 4, rfl, unhide HR, Below.refl _ _⟩
  · obtain ⟨j, rfl⟩ := Int.eq_ofNat_of_zero_le (show 0 ≤ k by omega)
    obtain ⟨lo, y1, a1, y2, a2, y3, a3, hc, hly, _, _⟩ := h.open
    obtain ⟨c0, c1, c2, c3, c4⟩ := ix_lay hc (Below.refl _ w)
    have HN := hide (lplace_any lo y1 a1 vs (Sp.widthOf vs) v j w hly (fun x hx => Sp.width_lt hx) hv (by omega) h.bru)
    rw [show Sp.lay vs (Sp.widthOf vs) = Sp.layers vs from rfl] at HN
    have HR : Hid (∀ a ok, PlRes vs v j a ok → Sp.SelRes vs v (j : Int) (if ok = true then a else 0) (if ok = true then 0 else 5)) := by
      rintro a ok (⟨h1, rfl, rfl⟩ | ⟨p, h1, rfl, rfl⟩)
      · exact Or.inr (Or.inl ⟨by omega, by rw [Int.toNat_natCast]; exact h1, rfl, rfl⟩)
      · exact Or.inr (Or.inr ⟨p, by omega, by rw [Int.toNat_natCast]; exact h1, rfl, rfl⟩)
    obtain ⟨pw, cw, pa, ca, rfl, rfl⟩ := hly.row.form
    clear h hc hly hbad
    generalize (Sp.layers vs).length = len at *
    generalize Sp.widthOf vs = W at *
    generalize vs.length = n at *
    go_enter Tryd.func17, Tryd.ntmps17
    go_wp2_with (first | (go_at_call 34; refine at_same (unhide HE _) ?_))
    refine (unhide HN).mono ?_
    rintro e w2 ⟨a, ok, rfl, hp, hb2⟩
    have HV := hide (And.intro (unhide HR a ok hp) hb2)
    have HFD := hide (fun W => found_any a ok W)
    clear hp hb2 HR HN
    generalize (if ok = true then a else 0) = ra at *
    generalize (if ok = true then (0 : Int) else 5) = rf at *
    go_wp2_with (first | (go_at_call 36; refine at_same (unhide HFD _) ?_))
    go_ret2
    exact ⟨ra, rf, rfl, unhide HV⟩
end Pr
end Go.Proofs.YtolkjadklbchfaaDoor
