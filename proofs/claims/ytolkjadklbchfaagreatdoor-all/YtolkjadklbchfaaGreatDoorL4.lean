import Derived.Test.YtolkjadklbchfaaGreatDoorL3
import Derived.Test.YtolkjadklbchfaaGreatDoorQ4
import Derived.Test.YtolkjadklbchfaaGreatDoorR2
import Derived.Test.YtolkjadklbchfaaGreatDoorR1
/- Walks of the law: asked. -/
open Go Go.RowKit
namespace Go.Proofs.YtolkjadklbchfaaGreatDoor
namespace Lw
open Mem Rf Pr

theorem number_any (a e b f : Int) (w : World) (hab : a = b) (hef : e = f) : Calls Tryz.prog 38 #[.int .i64 a, .int .i64 e, .int .i64 b, .int .i64 f] w fun r w' => r = .returned (.bool true) ∧ w' = w := by
  subst hab
  subst hef
  go_enter Tryz.func38, Tryz.ntmps38
  go_wp2
  go_ret
  exact ⟨ret_bool (by simp), rfl⟩

/-- The item that is asked: its index, its lists, where the law holds them. -/
structure Asd (w : World) (U k X : Nat) (pv : Option Addr) (cv : Nat) (pm : Option Addr) (cm : Nat) (vs ms : List Nat) : Prop where
  ask : Pr.Ask w X vs ms
  rv : Rd w.heap.size w (.slice pv vs.length cv) (U64 vs)
  rm : Rd w.heap.size w (.slice pm ms.length cm) (I64 (NI ms))
  at_ : ∃ gx cx gy cy n, w.cell? ⟨U, 0, none⟩ = some (.slice (some ⟨gx, 0, none⟩) n cx) ∧ w.cell? ⟨U, 1, none⟩ = some (.slice (some ⟨gy, 0, none⟩) n cy) ∧ k < n ∧ n ≤ 6 ∧ w.cell? ⟨gx, k, none⟩ = some (.pointer (some ⟨X, 0, none⟩)) ∧ w.cell? ⟨gy, k * 2, none⟩ = some (.slice pv vs.length cv) ∧ w.cell? ⟨gy, k * 2 + 1, none⟩ = some (.slice pm ms.length cm)

/-- The op's box and the document's index's box. -/
theorem two_boxes (w : World) (cs ds : Array Value) (t1 t2 : TypeId) {w' : World} (hb : Below ((w.alloc (.cells cs t1)).alloc (.cells ds t2)).heap.size ((w.alloc (.cells cs t1)).alloc (.cells ds t2)) w') :
    (∀ j u, cs[j]? = some u → w'.cell? ⟨w.heap.size, j, none⟩ = some u) ∧ (∀ j u, ds[j]? = some u → w'.cell? ⟨w.heap.size + 1, j, none⟩ = some u) ∧ Below w.heap.size w w' := by
  obtain ⟨h0, h1⟩ := blk2 w (.cells cs t1) (.cells ds t2)
  have g0 : w'.heap[w.heap.size]? = some (.cells cs t1 (0, 0)) := (hb.block _ (by simp; omega)).trans h0
  have g1 : w'.heap[w.heap.size + 1]? = some (.cells ds t2 (0, 0)) := (hb.block _ (by simp)).trans h1
  refine ⟨fun j u hu => ?_, fun j u hu => ?_, bel_trans (bel2 w _ _) hb⟩
  · rw [cell_of_row _ _ _ _ _ (0, 0) g0]
    exact hu
  · rw [cell_of_row _ _ _ _ _ (0, 0) g1]
    exact hu

set_option maxHeartbeats 8000000 in
set_option maxRecDepth 100000 in
theorem askedAccess (U k X : Nat) (w : World) (pv : Option Addr) (cv : Nat) (pm : Option Addr) (cm : Nat) (vs ms : List Nat) (h : Asd w U k X pv cv pm cm vs ms) (A B C D : Int) (u : Int) (x : Int) (V M : Value) (S : ByteArray) (hB : -9223372036854775808 ≤ B ∧ B ≤ 9223372036854775807) :
    Calls Tryz.prog 17 #[.pointer (some ⟨U, 0, none⟩), .agg #[.int .i64 4, .int .i64 A, .int .i64 B, .int .i64 C, .int .i64 D, .int .u64 u, .int .u64 x, V, M, .string S], .int .i64 (k : Nat)] w fun e w' => e = .returned (.bool true) ∧ Below w.heap.size w w' := by
  obtain ⟨hA, rv, rm, gx, cx, gy, cy, n, c0, c1, hk, hn6, cX, cV, cM⟩ := h
  have hn := hA.fit.len
  have hm : ms.length ≤ 200 := Nat.le_trans hA.fit.mlen hn
  have HX := hide (fun (W' : World) (hb : Below w.heap.size w W') => access_any X vs ms B W' (hA.later hb) hB)
  have HY := hide (fun (W' : World) (hb : Below w.heap.size w W') => racc_any _ pv _ cv (.slice pm ms.length cm) vs B W' (rv.below hb))
  have a0 := fun o => alloc_cell c0 o
  have a1 := fun o => alloc_cell c1 o
  have aX := fun o => alloc_cell cX o
  have aV := fun o => alloc_cell cV o
  have aM := fun o => alloc_cell cM o
  have HBX : Hid (∀ w', Below ((w.alloc (.cells #[.int .i64 4, .int .i64 A, .int .i64 B, .int .i64 C, .int .i64 D, .int .u64 u, .int .u64 x, V, M, .string S] 38)).alloc (.cells #[.slice pv vs.length cv, .slice pm ms.length cm] 52)).heap.size ((w.alloc (.cells #[.int .i64 4, .int .i64 A, .int .i64 B, .int .i64 C, .int .i64 D, .int .u64 u, .int .u64 x, V, M, .string S] 38)).alloc (.cells #[.slice pv vs.length cv, .slice pm ms.length cm] 52)) w' →
      (w'.cell? ⟨w.heap.size, 2, none⟩ = some (.int .i64 B) ∧ w'.cell? ⟨w.heap.size, 3, none⟩ = some (.int .i64 C) ∧ w'.cell? ⟨w.heap.size, 4, none⟩ = some (.int .i64 D) ∧ w'.cell? ⟨w.heap.size, 5, none⟩ = some (.int .u64 u) ∧ w'.cell? ⟨w.heap.size, 6, none⟩ = some (.int .u64 x) ∧ w'.cell? ⟨w.heap.size + 1, 0, none⟩ = some (.slice pv vs.length cv) ∧ w'.cell? ⟨w.heap.size + 1, 1, none⟩ = some (.slice pm ms.length cm)) ∧ Below w.heap.size w w') := by
    intro w' hb
    obtain ⟨g1, g2, g3⟩ := two_boxes w _ _ _ _ hb
    exact ⟨⟨g1 2 _ rfl, g1 3 _ rfl, g1 4 _ rfl, g1 5 _ rfl, g1 6 _ rfl, g2 0 _ rfl, g2 1 _ rfl⟩, g3⟩
  have HB2 : Hid (∀ o1 o2, Below w.heap.size w ((w.alloc o1).alloc o2)) := fun o1 o2 => bel2 w o1 o2
  clear hA rv rm c0 c1 cX cV cM
  generalize vs.length = nv at *
  generalize ms.length = mv at *
  go_enter Tryz.func17, Tryz.ntmps17
  go_wp2_with fail
  refine (unhide HX _ (unhide HB2 _ _)).mono ?_
  rintro e w1 ⟨ra, rf, rfl, hres, hb1⟩
  obtain ⟨⟨k2, k3, k4, k5, k6, k7, k8⟩, hbw⟩ := unhide HBX _ hb1
  have HRES := hide hres
  have HYY := hide (unhide HY _ hbw)
  have HBW := hide hbw
  clear hres hbw hb1 HX HY a0 a1 aX aV aM
  go_wp2_with fail
  refine (unhide HYY).mono ?_
  rintro e w2 ⟨rb, rg, rfl, hres2, hb2⟩
  obtain ⟨e1, e2⟩ := Sp.AccRes.uniq (unhide HRES) hres2
  have HB3 := hide (bel_trans (unhide HBW) hb2)
  subst e1
  subst e2
  clear hres2 hb2 HYY HRES
  go_wp2
  go_ret
  exact ⟨ret_bool (by simp), unhide HB3⟩

set_option maxHeartbeats 8000000 in
set_option maxRecDepth 100000 in
theorem askedRank (U k X : Nat) (w : World) (pv : Option Addr) (cv : Nat) (pm : Option Addr) (cm : Nat) (vs ms : List Nat) (h : Asd w U k X pv cv pm cm vs ms) (A B C D : Int) (u : Nat) (x : Int) (V M : Value) (S : ByteArray) (hu : u < 18446744073709551616) :
    Calls Tryz.prog 17 #[.pointer (some ⟨U, 0, none⟩), .agg #[.int .i64 5, .int .i64 A, .int .i64 B, .int .i64 C, .int .i64 D, .int .u64 (u : Nat), .int .u64 x, V, M, .string S], .int .i64 (k : Nat)] w fun e w' => e = .returned (.bool true) ∧ Below w.heap.size w w' := by
  obtain ⟨hA, rv, rm, gx, cx, gy, cy, n, c0, c1, hk, hn6, cX, cV, cM⟩ := h
  have hn := hA.fit.len
  have hm : ms.length ≤ 200 := Nat.le_trans hA.fit.mlen hn
  have HX := hide (fun (W' : World) (hb : Below w.heap.size w W') => rank_any X vs ms u B W' (hA.later hb) hu)
  have HY := hide (fun (W' : World) (hb : Below w.heap.size w W') => rrank_any _ pv _ cv (.slice pm ms.length cm) vs u B W' (rv.below hb) hn)
  have a0 := fun o => alloc_cell c0 o
  have a1 := fun o => alloc_cell c1 o
  have aX := fun o => alloc_cell cX o
  have aV := fun o => alloc_cell cV o
  have aM := fun o => alloc_cell cM o
  have HBX : Hid (∀ w', Below ((w.alloc (.cells #[.int .i64 5, .int .i64 A, .int .i64 B, .int .i64 C, .int .i64 D, .int .u64 (u : Nat), .int .u64 x, V, M, .string S] 38)).alloc (.cells #[.slice pv vs.length cv, .slice pm ms.length cm] 52)).heap.size ((w.alloc (.cells #[.int .i64 5, .int .i64 A, .int .i64 B, .int .i64 C, .int .i64 D, .int .u64 (u : Nat), .int .u64 x, V, M, .string S] 38)).alloc (.cells #[.slice pv vs.length cv, .slice pm ms.length cm] 52)) w' →
      (w'.cell? ⟨w.heap.size, 2, none⟩ = some (.int .i64 B) ∧ w'.cell? ⟨w.heap.size, 3, none⟩ = some (.int .i64 C) ∧ w'.cell? ⟨w.heap.size, 4, none⟩ = some (.int .i64 D) ∧ w'.cell? ⟨w.heap.size, 5, none⟩ = some (.int .u64 (u : Nat)) ∧ w'.cell? ⟨w.heap.size, 6, none⟩ = some (.int .u64 x) ∧ w'.cell? ⟨w.heap.size + 1, 0, none⟩ = some (.slice pv vs.length cv) ∧ w'.cell? ⟨w.heap.size + 1, 1, none⟩ = some (.slice pm ms.length cm)) ∧ Below w.heap.size w w') := by
    intro w' hb
    obtain ⟨g1, g2, g3⟩ := two_boxes w _ _ _ _ hb
    exact ⟨⟨g1 2 _ rfl, g1 3 _ rfl, g1 4 _ rfl, g1 5 _ rfl, g1 6 _ rfl, g2 0 _ rfl, g2 1 _ rfl⟩, g3⟩
  have HB2 : Hid (∀ o1 o2, Below w.heap.size w ((w.alloc o1).alloc o2)) := fun o1 o2 => bel2 w o1 o2
  clear hA rv rm c0 c1 cX cV cM
  generalize vs.length = nv at *
  generalize ms.length = mv at *
  go_enter Tryz.func17, Tryz.ntmps17
  go_wp2_with fail
  refine (unhide HX _ (unhide HB2 _ _)).mono ?_
  rintro e w1 ⟨ra, rf, rfl, hres, hb1⟩
  obtain ⟨⟨k2, k3, k4, k5, k6, k7, k8⟩, hbw⟩ := unhide HBX _ hb1
  have HRES := hide hres
  have HYY := hide (unhide HY _ hbw)
  have HBW := hide hbw
  clear hres hbw hb1 HX HY a0 a1 aX aV aM
  go_wp2_with fail
  refine (unhide HYY).mono ?_
  rintro e w2 ⟨rb, rg, rfl, hres2, hb2⟩
  obtain ⟨e1, e2⟩ := Sp.RankRes.uniq (unhide HRES) hres2
  have HB3 := hide (bel_trans (unhide HBW) hb2)
  have HN := hide (fun W => number_any ra rf rb rg W e1 e2)
  clear hres2 hb2 HYY HRES e1 e2
  go_wp2_with (go_at_call 38; refine at_same (unhide HN _) ?_)
  go_ret
  exact ⟨rfl, unhide HB3⟩

set_option maxHeartbeats 8000000 in
set_option maxRecDepth 100000 in
theorem askedSelect (U k X : Nat) (w : World) (pv : Option Addr) (cv : Nat) (pm : Option Addr) (cm : Nat) (vs ms : List Nat) (h : Asd w U k X pv cv pm cm vs ms) (A B C D : Int) (u : Nat) (x : Int) (V M : Value) (S : ByteArray) (hB : -9223372036854775808 ≤ B ∧ B ≤ 9223372036854775807) (hu : u < 18446744073709551616) :
    Calls Tryz.prog 17 #[.pointer (some ⟨U, 0, none⟩), .agg #[.int .i64 6, .int .i64 A, .int .i64 B, .int .i64 C, .int .i64 D, .int .u64 (u : Nat), .int .u64 x, V, M, .string S], .int .i64 (k : Nat)] w fun e w' => e = .returned (.bool true) ∧ Below w.heap.size w w' := by
  obtain ⟨hA, rv, rm, gx, cx, gy, cy, n, c0, c1, hk, hn6, cX, cV, cM⟩ := h
  have hn := hA.fit.len
  have hm : ms.length ≤ 200 := Nat.le_trans hA.fit.mlen hn
  have HX := hide (fun (W' : World) (hb : Below w.heap.size w W') => select_any X vs ms u B W' (hA.later hb) hu hB.2)
  have HY := hide (fun (W' : World) (hb : Below w.heap.size w W') => rsel_any _ pv _ cv (.slice pm ms.length cm) vs u B W' (rv.below hb) hn hB.2)
  have a0 := fun o => alloc_cell c0 o
  have a1 := fun o => alloc_cell c1 o
  have aX := fun o => alloc_cell cX o
  have aV := fun o => alloc_cell cV o
  have aM := fun o => alloc_cell cM o
  have HBX : Hid (∀ w', Below ((w.alloc (.cells #[.int .i64 6, .int .i64 A, .int .i64 B, .int .i64 C, .int .i64 D, .int .u64 (u : Nat), .int .u64 x, V, M, .string S] 38)).alloc (.cells #[.slice pv vs.length cv, .slice pm ms.length cm] 52)).heap.size ((w.alloc (.cells #[.int .i64 6, .int .i64 A, .int .i64 B, .int .i64 C, .int .i64 D, .int .u64 (u : Nat), .int .u64 x, V, M, .string S] 38)).alloc (.cells #[.slice pv vs.length cv, .slice pm ms.length cm] 52)) w' →
      (w'.cell? ⟨w.heap.size, 2, none⟩ = some (.int .i64 B) ∧ w'.cell? ⟨w.heap.size, 3, none⟩ = some (.int .i64 C) ∧ w'.cell? ⟨w.heap.size, 4, none⟩ = some (.int .i64 D) ∧ w'.cell? ⟨w.heap.size, 5, none⟩ = some (.int .u64 (u : Nat)) ∧ w'.cell? ⟨w.heap.size, 6, none⟩ = some (.int .u64 x) ∧ w'.cell? ⟨w.heap.size + 1, 0, none⟩ = some (.slice pv vs.length cv) ∧ w'.cell? ⟨w.heap.size + 1, 1, none⟩ = some (.slice pm ms.length cm)) ∧ Below w.heap.size w w') := by
    intro w' hb
    obtain ⟨g1, g2, g3⟩ := two_boxes w _ _ _ _ hb
    exact ⟨⟨g1 2 _ rfl, g1 3 _ rfl, g1 4 _ rfl, g1 5 _ rfl, g1 6 _ rfl, g2 0 _ rfl, g2 1 _ rfl⟩, g3⟩
  have HB2 : Hid (∀ o1 o2, Below w.heap.size w ((w.alloc o1).alloc o2)) := fun o1 o2 => bel2 w o1 o2
  clear hA rv rm c0 c1 cX cV cM
  generalize vs.length = nv at *
  generalize ms.length = mv at *
  go_enter Tryz.func17, Tryz.ntmps17
  go_wp2_with fail
  refine (unhide HX _ (unhide HB2 _ _)).mono ?_
  rintro e w1 ⟨ra, rf, rfl, hres, hb1⟩
  obtain ⟨⟨k2, k3, k4, k5, k6, k7, k8⟩, hbw⟩ := unhide HBX _ hb1
  have HRES := hide hres
  have HYY := hide (unhide HY _ hbw)
  have HBW := hide hbw
  clear hres hbw hb1 HX HY a0 a1 aX aV aM
  go_wp2_with fail
  refine (unhide HYY).mono ?_
  rintro e w2 ⟨rb, rg, rfl, hres2, hb2⟩
  obtain ⟨e1, e2⟩ := Sp.SelRes.uniq (unhide HRES) hres2
  have HB3 := hide (bel_trans (unhide HBW) hb2)
  have HN := hide (fun W => number_any ra rf rb rg W e1 e2)
  clear hres2 hb2 HYY HRES e1 e2
  go_wp2_with (go_at_call 38; refine at_same (unhide HN _) ?_)
  go_ret
  exact ⟨rfl, unhide HB3⟩

set_option maxHeartbeats 8000000 in
set_option maxRecDepth 100000 in
theorem askedLeast (U k X : Nat) (w : World) (pv : Option Addr) (cv : Nat) (pm : Option Addr) (cm : Nat) (vs ms : List Nat) (h : Asd w U k X pv cv pm cm vs ms) (A B C D : Int) (u : Int) (x : Int) (V M : Value) (S : ByteArray) :
    Calls Tryz.prog 17 #[.pointer (some ⟨U, 0, none⟩), .agg #[.int .i64 7, .int .i64 A, .int .i64 B, .int .i64 C, .int .i64 D, .int .u64 u, .int .u64 x, V, M, .string S], .int .i64 (k : Nat)] w fun e w' => e = .returned (.bool true) ∧ Below w.heap.size w w' := by
  obtain ⟨hA, rv, rm, gx, cx, gy, cy, n, c0, c1, hk, hn6, cX, cV, cM⟩ := h
  have hn := hA.fit.len
  have hm : ms.length ≤ 200 := Nat.le_trans hA.fit.mlen hn
  have HX := hide (fun (W' : World) (hb : Below w.heap.size w W') => least_any X vs ms B C W' (hA.later hb))
  have HY := hide (fun (W' : World) (hb : Below w.heap.size w W') => rleast_any _ pv _ cv (.slice pm ms.length cm) vs B C W' (rv.below hb) hn hb.size)
  have a0 := fun o => alloc_cell c0 o
  have a1 := fun o => alloc_cell c1 o
  have aX := fun o => alloc_cell cX o
  have aV := fun o => alloc_cell cV o
  have aM := fun o => alloc_cell cM o
  have HBX : Hid (∀ w', Below ((w.alloc (.cells #[.int .i64 7, .int .i64 A, .int .i64 B, .int .i64 C, .int .i64 D, .int .u64 u, .int .u64 x, V, M, .string S] 38)).alloc (.cells #[.slice pv vs.length cv, .slice pm ms.length cm] 52)).heap.size ((w.alloc (.cells #[.int .i64 7, .int .i64 A, .int .i64 B, .int .i64 C, .int .i64 D, .int .u64 u, .int .u64 x, V, M, .string S] 38)).alloc (.cells #[.slice pv vs.length cv, .slice pm ms.length cm] 52)) w' →
      (w'.cell? ⟨w.heap.size, 2, none⟩ = some (.int .i64 B) ∧ w'.cell? ⟨w.heap.size, 3, none⟩ = some (.int .i64 C) ∧ w'.cell? ⟨w.heap.size, 4, none⟩ = some (.int .i64 D) ∧ w'.cell? ⟨w.heap.size, 5, none⟩ = some (.int .u64 u) ∧ w'.cell? ⟨w.heap.size, 6, none⟩ = some (.int .u64 x) ∧ w'.cell? ⟨w.heap.size + 1, 0, none⟩ = some (.slice pv vs.length cv) ∧ w'.cell? ⟨w.heap.size + 1, 1, none⟩ = some (.slice pm ms.length cm)) ∧ Below w.heap.size w w') := by
    intro w' hb
    obtain ⟨g1, g2, g3⟩ := two_boxes w _ _ _ _ hb
    exact ⟨⟨g1 2 _ rfl, g1 3 _ rfl, g1 4 _ rfl, g1 5 _ rfl, g1 6 _ rfl, g2 0 _ rfl, g2 1 _ rfl⟩, g3⟩
  have HB2 : Hid (∀ o1 o2, Below w.heap.size w ((w.alloc o1).alloc o2)) := fun o1 o2 => bel2 w o1 o2
  clear hA rv rm c0 c1 cX cV cM
  generalize vs.length = nv at *
  generalize ms.length = mv at *
  go_enter Tryz.func17, Tryz.ntmps17
  go_wp2_with fail
  refine (unhide HX _ (unhide HB2 _ _)).mono ?_
  rintro e w1 ⟨ra, rf, rfl, hres, hb1⟩
  obtain ⟨⟨k2, k3, k4, k5, k6, k7, k8⟩, hbw⟩ := unhide HBX _ hb1
  have HRES := hide hres
  have HYY := hide (unhide HY _ hbw)
  have HBW := hide hbw
  clear hres hbw hb1 HX HY a0 a1 aX aV aM
  go_wp2_with fail
  refine (unhide HYY).mono ?_
  rintro e w2 ⟨rb, rg, rfl, hres2, hb2⟩
  obtain ⟨e1, e2⟩ := Sp.LeastRes.uniq (unhide HRES) hres2
  have HB3 := hide (bel_trans (unhide HBW) hb2)
  have HN := hide (fun W => number_any ra rf rb rg W e1 e2)
  clear hres2 hb2 HYY HRES e1 e2
  go_wp2_with (go_at_call 38; refine at_same (unhide HN _) ?_)
  go_ret
  exact ⟨rfl, unhide HB3⟩

set_option maxHeartbeats 8000000 in
set_option maxRecDepth 100000 in
theorem askedNth (U k X : Nat) (w : World) (pv : Option Addr) (cv : Nat) (pm : Option Addr) (cm : Nat) (vs ms : List Nat) (h : Asd w U k X pv cv pm cm vs ms) (A B C D : Int) (u : Int) (x : Int) (V M : Value) (S : ByteArray) :
    Calls Tryz.prog 17 #[.pointer (some ⟨U, 0, none⟩), .agg #[.int .i64 8, .int .i64 A, .int .i64 B, .int .i64 C, .int .i64 D, .int .u64 u, .int .u64 x, V, M, .string S], .int .i64 (k : Nat)] w fun e w' => e = .returned (.bool true) ∧ Below w.heap.size w w' := by
  obtain ⟨hA, rv, rm, gx, cx, gy, cy, n, c0, c1, hk, hn6, cX, cV, cM⟩ := h
  have hn := hA.fit.len
  have hm : ms.length ≤ 200 := Nat.le_trans hA.fit.mlen hn
  have HX := hide (fun (W' : World) (hb : Below w.heap.size w W') => nth_any X vs ms B C D W' (hA.later hb))
  have HY := hide (fun (W' : World) (hb : Below w.heap.size w W') => rnth_any _ pv _ cv (.slice pm ms.length cm) vs B C D W' (rv.below hb) hn hb.size hA.fit.big)
  have a0 := fun o => alloc_cell c0 o
  have a1 := fun o => alloc_cell c1 o
  have aX := fun o => alloc_cell cX o
  have aV := fun o => alloc_cell cV o
  have aM := fun o => alloc_cell cM o
  have HBX : Hid (∀ w', Below ((w.alloc (.cells #[.int .i64 8, .int .i64 A, .int .i64 B, .int .i64 C, .int .i64 D, .int .u64 u, .int .u64 x, V, M, .string S] 38)).alloc (.cells #[.slice pv vs.length cv, .slice pm ms.length cm] 52)).heap.size ((w.alloc (.cells #[.int .i64 8, .int .i64 A, .int .i64 B, .int .i64 C, .int .i64 D, .int .u64 u, .int .u64 x, V, M, .string S] 38)).alloc (.cells #[.slice pv vs.length cv, .slice pm ms.length cm] 52)) w' →
      (w'.cell? ⟨w.heap.size, 2, none⟩ = some (.int .i64 B) ∧ w'.cell? ⟨w.heap.size, 3, none⟩ = some (.int .i64 C) ∧ w'.cell? ⟨w.heap.size, 4, none⟩ = some (.int .i64 D) ∧ w'.cell? ⟨w.heap.size, 5, none⟩ = some (.int .u64 u) ∧ w'.cell? ⟨w.heap.size, 6, none⟩ = some (.int .u64 x) ∧ w'.cell? ⟨w.heap.size + 1, 0, none⟩ = some (.slice pv vs.length cv) ∧ w'.cell? ⟨w.heap.size + 1, 1, none⟩ = some (.slice pm ms.length cm)) ∧ Below w.heap.size w w') := by
    intro w' hb
    obtain ⟨g1, g2, g3⟩ := two_boxes w _ _ _ _ hb
    exact ⟨⟨g1 2 _ rfl, g1 3 _ rfl, g1 4 _ rfl, g1 5 _ rfl, g1 6 _ rfl, g2 0 _ rfl, g2 1 _ rfl⟩, g3⟩
  have HB2 : Hid (∀ o1 o2, Below w.heap.size w ((w.alloc o1).alloc o2)) := fun o1 o2 => bel2 w o1 o2
  clear hA rv rm c0 c1 cX cV cM
  generalize vs.length = nv at *
  generalize ms.length = mv at *
  go_enter Tryz.func17, Tryz.ntmps17
  go_wp2_with fail
  refine (unhide HX _ (unhide HB2 _ _)).mono ?_
  rintro e w1 ⟨ra, rf, rfl, hres, hb1⟩
  obtain ⟨⟨k2, k3, k4, k5, k6, k7, k8⟩, hbw⟩ := unhide HBX _ hb1
  have HRES := hide hres
  have HYY := hide (unhide HY _ hbw)
  have HBW := hide hbw
  clear hres hbw hb1 HX HY a0 a1 aX aV aM
  go_wp2_with fail
  refine (unhide HYY).mono ?_
  rintro e w2 ⟨rb, rg, rfl, hres2, hb2⟩
  obtain ⟨e1, e2⟩ := Sp.NthRes.uniq (unhide HRES) hres2
  have HB3 := hide (bel_trans (unhide HBW) hb2)
  subst e1
  subst e2
  clear hres2 hb2 HYY HRES
  go_wp2
  go_ret
  exact ⟨ret_bool (by simp), unhide HB3⟩

set_option maxHeartbeats 8000000 in
set_option maxRecDepth 100000 in
theorem askedCount (U k X : Nat) (w : World) (pv : Option Addr) (cv : Nat) (pm : Option Addr) (cm : Nat) (vs ms : List Nat) (h : Asd w U k X pv cv pm cm vs ms) (A B C D : Int) (u : Nat) (x : Nat) (V M : Value) (S : ByteArray) (hu : u < 18446744073709551616) (hx : x < 18446744073709551616) :
    Calls Tryz.prog 17 #[.pointer (some ⟨U, 0, none⟩), .agg #[.int .i64 9, .int .i64 A, .int .i64 B, .int .i64 C, .int .i64 D, .int .u64 (u : Nat), .int .u64 (x : Nat), V, M, .string S], .int .i64 (k : Nat)] w fun e w' => e = .returned (.bool true) ∧ Below w.heap.size w w' := by
  obtain ⟨hA, rv, rm, gx, cx, gy, cy, n, c0, c1, hk, hn6, cX, cV, cM⟩ := h
  have hn := hA.fit.len
  have hm : ms.length ≤ 200 := Nat.le_trans hA.fit.mlen hn
  have HX := hide (fun (W' : World) (hb : Below w.heap.size w W') => count_any X vs ms B C u x W' (hA.later hb) hu hx)
  have HY := hide (fun (W' : World) (hb : Below w.heap.size w W') => rcount_any _ pv _ cv (.slice pm ms.length cm) vs B C u x W' (rv.below hb) hn hb.size)
  have a0 := fun o => alloc_cell c0 o
  have a1 := fun o => alloc_cell c1 o
  have aX := fun o => alloc_cell cX o
  have aV := fun o => alloc_cell cV o
  have aM := fun o => alloc_cell cM o
  have HBX : Hid (∀ w', Below ((w.alloc (.cells #[.int .i64 9, .int .i64 A, .int .i64 B, .int .i64 C, .int .i64 D, .int .u64 (u : Nat), .int .u64 (x : Nat), V, M, .string S] 38)).alloc (.cells #[.slice pv vs.length cv, .slice pm ms.length cm] 52)).heap.size ((w.alloc (.cells #[.int .i64 9, .int .i64 A, .int .i64 B, .int .i64 C, .int .i64 D, .int .u64 (u : Nat), .int .u64 (x : Nat), V, M, .string S] 38)).alloc (.cells #[.slice pv vs.length cv, .slice pm ms.length cm] 52)) w' →
      (w'.cell? ⟨w.heap.size, 2, none⟩ = some (.int .i64 B) ∧ w'.cell? ⟨w.heap.size, 3, none⟩ = some (.int .i64 C) ∧ w'.cell? ⟨w.heap.size, 4, none⟩ = some (.int .i64 D) ∧ w'.cell? ⟨w.heap.size, 5, none⟩ = some (.int .u64 (u : Nat)) ∧ w'.cell? ⟨w.heap.size, 6, none⟩ = some (.int .u64 (x : Nat)) ∧ w'.cell? ⟨w.heap.size + 1, 0, none⟩ = some (.slice pv vs.length cv) ∧ w'.cell? ⟨w.heap.size + 1, 1, none⟩ = some (.slice pm ms.length cm)) ∧ Below w.heap.size w w') := by
    intro w' hb
    obtain ⟨g1, g2, g3⟩ := two_boxes w _ _ _ _ hb
    exact ⟨⟨g1 2 _ rfl, g1 3 _ rfl, g1 4 _ rfl, g1 5 _ rfl, g1 6 _ rfl, g2 0 _ rfl, g2 1 _ rfl⟩, g3⟩
  have HB2 : Hid (∀ o1 o2, Below w.heap.size w ((w.alloc o1).alloc o2)) := fun o1 o2 => bel2 w o1 o2
  clear hA rv rm c0 c1 cX cV cM
  generalize vs.length = nv at *
  generalize ms.length = mv at *
  go_enter Tryz.func17, Tryz.ntmps17
  go_wp2_with fail
  refine (unhide HX _ (unhide HB2 _ _)).mono ?_
  rintro e w1 ⟨ra, rf, rfl, hres, hb1⟩
  obtain ⟨⟨k2, k3, k4, k5, k6, k7, k8⟩, hbw⟩ := unhide HBX _ hb1
  have HRES := hide hres
  have HYY := hide (unhide HY _ hbw)
  have HBW := hide hbw
  clear hres hbw hb1 HX HY a0 a1 aX aV aM
  go_wp2_with fail
  refine (unhide HYY).mono ?_
  rintro e w2 ⟨rb, rg, rfl, hres2, hb2⟩
  obtain ⟨e1, e2⟩ := Sp.CountRes.uniq (unhide HRES) hres2
  have HB3 := hide (bel_trans (unhide HBW) hb2)
  have HN := hide (fun W => number_any ra rf rb rg W e1 e2)
  clear hres2 hb2 HYY HRES e1 e2
  go_wp2_with (go_at_call 38; refine at_same (unhide HN _) ?_)
  go_ret
  exact ⟨rfl, unhide HB3⟩

set_option maxHeartbeats 8000000 in
set_option maxRecDepth 100000 in
theorem askedBefore (U k X : Nat) (w : World) (pv : Option Addr) (cv : Nat) (pm : Option Addr) (cm : Nat) (vs ms : List Nat) (h : Asd w U k X pv cv pm cm vs ms) (A B C D : Int) (u : Int) (x : Int) (V M : Value) (S : ByteArray) :
    Calls Tryz.prog 17 #[.pointer (some ⟨U, 0, none⟩), .agg #[.int .i64 10, .int .i64 A, .int .i64 B, .int .i64 C, .int .i64 D, .int .u64 u, .int .u64 x, V, M, .string S], .int .i64 (k : Nat)] w fun e w' => e = .returned (.bool true) ∧ Below w.heap.size w w' := by
  obtain ⟨hA, rv, rm, gx, cx, gy, cy, n, c0, c1, hk, hn6, cX, cV, cM⟩ := h
  have hn := hA.fit.len
  have hm : ms.length ≤ 200 := Nat.le_trans hA.fit.mlen hn
  have HX := hide (fun (W' : World) (hb : Below w.heap.size w W') => askBefore_any X vs ms B W' (hA.later hb))
  have HY := hide (fun (W' : World) (hb : Below w.heap.size w W') => rbefore_any _ (.slice pv vs.length cv) pm _ cm ms B W' (rm.below hb) hm hA.fit.rises)
  have a0 := fun o => alloc_cell c0 o
  have a1 := fun o => alloc_cell c1 o
  have aX := fun o => alloc_cell cX o
  have aV := fun o => alloc_cell cV o
  have aM := fun o => alloc_cell cM o
  have HBX : Hid (∀ w', Below ((w.alloc (.cells #[.int .i64 10, .int .i64 A, .int .i64 B, .int .i64 C, .int .i64 D, .int .u64 u, .int .u64 x, V, M, .string S] 38)).alloc (.cells #[.slice pv vs.length cv, .slice pm ms.length cm] 52)).heap.size ((w.alloc (.cells #[.int .i64 10, .int .i64 A, .int .i64 B, .int .i64 C, .int .i64 D, .int .u64 u, .int .u64 x, V, M, .string S] 38)).alloc (.cells #[.slice pv vs.length cv, .slice pm ms.length cm] 52)) w' →
      (w'.cell? ⟨w.heap.size, 2, none⟩ = some (.int .i64 B) ∧ w'.cell? ⟨w.heap.size, 3, none⟩ = some (.int .i64 C) ∧ w'.cell? ⟨w.heap.size, 4, none⟩ = some (.int .i64 D) ∧ w'.cell? ⟨w.heap.size, 5, none⟩ = some (.int .u64 u) ∧ w'.cell? ⟨w.heap.size, 6, none⟩ = some (.int .u64 x) ∧ w'.cell? ⟨w.heap.size + 1, 0, none⟩ = some (.slice pv vs.length cv) ∧ w'.cell? ⟨w.heap.size + 1, 1, none⟩ = some (.slice pm ms.length cm)) ∧ Below w.heap.size w w') := by
    intro w' hb
    obtain ⟨g1, g2, g3⟩ := two_boxes w _ _ _ _ hb
    exact ⟨⟨g1 2 _ rfl, g1 3 _ rfl, g1 4 _ rfl, g1 5 _ rfl, g1 6 _ rfl, g2 0 _ rfl, g2 1 _ rfl⟩, g3⟩
  have HB2 : Hid (∀ o1 o2, Below w.heap.size w ((w.alloc o1).alloc o2)) := fun o1 o2 => bel2 w o1 o2
  clear hA rv rm c0 c1 cX cV cM
  generalize vs.length = nv at *
  generalize ms.length = mv at *
  go_enter Tryz.func17, Tryz.ntmps17
  go_wp2_with fail
  refine (unhide HX _ (unhide HB2 _ _)).mono ?_
  rintro e w1 ⟨ra, rf, rfl, hres, hb1⟩
  obtain ⟨⟨k2, k3, k4, k5, k6, k7, k8⟩, hbw⟩ := unhide HBX _ hb1
  have HRES := hide hres
  have HYY := hide (unhide HY _ hbw)
  have HBW := hide hbw
  clear hres hbw hb1 HX HY a0 a1 aX aV aM
  go_wp2_with fail
  refine (unhide HYY).mono ?_
  rintro e w2 ⟨rb, rg, rfl, hres2, hb2⟩
  obtain ⟨e1, e2⟩ := Sp.BeforeRes.uniq (unhide HRES) hres2
  have HB3 := hide (bel_trans (unhide HBW) hb2)
  have HN := hide (fun W => number_any ra rf rb rg W e1 e2)
  clear hres2 hb2 HYY HRES e1 e2
  go_wp2_with (go_at_call 38; refine at_same (unhide HN _) ?_)
  go_ret
  exact ⟨rfl, unhide HB3⟩

set_option maxHeartbeats 8000000 in
set_option maxRecDepth 100000 in
theorem askedAfter (U k X : Nat) (w : World) (pv : Option Addr) (cv : Nat) (pm : Option Addr) (cm : Nat) (vs ms : List Nat) (h : Asd w U k X pv cv pm cm vs ms) (A B C D : Int) (u : Int) (x : Int) (V M : Value) (S : ByteArray) :
    Calls Tryz.prog 17 #[.pointer (some ⟨U, 0, none⟩), .agg #[.int .i64 11, .int .i64 A, .int .i64 B, .int .i64 C, .int .i64 D, .int .u64 u, .int .u64 x, V, M, .string S], .int .i64 (k : Nat)] w fun e w' => e = .returned (.bool true) ∧ Below w.heap.size w w' := by
  obtain ⟨hA, rv, rm, gx, cx, gy, cy, n, c0, c1, hk, hn6, cX, cV, cM⟩ := h
  have hn := hA.fit.len
  have hm : ms.length ≤ 200 := Nat.le_trans hA.fit.mlen hn
  have HX := hide (fun (W' : World) (hb : Below w.heap.size w W') => askAfter_any X vs ms B W' (hA.later hb))
  have HY := hide (fun (W' : World) (hb : Below w.heap.size w W') => rafter_any _ (.slice pv vs.length cv) pm _ cm ms B W' (rm.below hb) hm hA.fit.rises)
  have a0 := fun o => alloc_cell c0 o
  have a1 := fun o => alloc_cell c1 o
  have aX := fun o => alloc_cell cX o
  have aV := fun o => alloc_cell cV o
  have aM := fun o => alloc_cell cM o
  have HBX : Hid (∀ w', Below ((w.alloc (.cells #[.int .i64 11, .int .i64 A, .int .i64 B, .int .i64 C, .int .i64 D, .int .u64 u, .int .u64 x, V, M, .string S] 38)).alloc (.cells #[.slice pv vs.length cv, .slice pm ms.length cm] 52)).heap.size ((w.alloc (.cells #[.int .i64 11, .int .i64 A, .int .i64 B, .int .i64 C, .int .i64 D, .int .u64 u, .int .u64 x, V, M, .string S] 38)).alloc (.cells #[.slice pv vs.length cv, .slice pm ms.length cm] 52)) w' →
      (w'.cell? ⟨w.heap.size, 2, none⟩ = some (.int .i64 B) ∧ w'.cell? ⟨w.heap.size, 3, none⟩ = some (.int .i64 C) ∧ w'.cell? ⟨w.heap.size, 4, none⟩ = some (.int .i64 D) ∧ w'.cell? ⟨w.heap.size, 5, none⟩ = some (.int .u64 u) ∧ w'.cell? ⟨w.heap.size, 6, none⟩ = some (.int .u64 x) ∧ w'.cell? ⟨w.heap.size + 1, 0, none⟩ = some (.slice pv vs.length cv) ∧ w'.cell? ⟨w.heap.size + 1, 1, none⟩ = some (.slice pm ms.length cm)) ∧ Below w.heap.size w w') := by
    intro w' hb
    obtain ⟨g1, g2, g3⟩ := two_boxes w _ _ _ _ hb
    exact ⟨⟨g1 2 _ rfl, g1 3 _ rfl, g1 4 _ rfl, g1 5 _ rfl, g1 6 _ rfl, g2 0 _ rfl, g2 1 _ rfl⟩, g3⟩
  have HB2 : Hid (∀ o1 o2, Below w.heap.size w ((w.alloc o1).alloc o2)) := fun o1 o2 => bel2 w o1 o2
  clear hA rv rm c0 c1 cX cV cM
  generalize vs.length = nv at *
  generalize ms.length = mv at *
  go_enter Tryz.func17, Tryz.ntmps17
  go_wp2_with fail
  refine (unhide HX _ (unhide HB2 _ _)).mono ?_
  rintro e w1 ⟨ra, rf, rfl, hres, hb1⟩
  obtain ⟨⟨k2, k3, k4, k5, k6, k7, k8⟩, hbw⟩ := unhide HBX _ hb1
  have HRES := hide hres
  have HYY := hide (unhide HY _ hbw)
  have HBW := hide hbw
  clear hres hbw hb1 HX HY a0 a1 aX aV aM
  go_wp2_with fail
  refine (unhide HYY).mono ?_
  rintro e w2 ⟨rb, rg, rfl, hres2, hb2⟩
  obtain ⟨e1, e2⟩ := Sp.AfterRes.uniq (unhide HRES) hres2
  have HB3 := hide (bel_trans (unhide HBW) hb2)
  have HN := hide (fun W => number_any ra rf rb rg W e1 e2)
  clear hres2 hb2 HYY HRES e1 e2
  go_wp2_with (go_at_call 38; refine at_same (unhide HN _) ?_)
  go_ret
  exact ⟨rfl, unhide HB3⟩

set_option maxHeartbeats 8000000 in
set_option maxRecDepth 100000 in
theorem askedSize (U k X : Nat) (w : World) (pv : Option Addr) (cv : Nat) (pm : Option Addr) (cm : Nat) (vs ms : List Nat) (h : Asd w U k X pv cv pm cm vs ms) (A B C D u x : Int) (V M : Value) (S : ByteArray) :
    Calls Tryz.prog 17 #[.pointer (some ⟨U, 0, none⟩), .agg #[.int .i64 3, .int .i64 A, .int .i64 B, .int .i64 C, .int .i64 D, .int .u64 u, .int .u64 x, V, M, .string S], .int .i64 (k : Nat)] w fun e w' => e = .returned (.bool true) ∧ Below w.heap.size w w' := by
  obtain ⟨hA, rv, rm, gx, cx, gy, cy, n, c0, c1, hk, hn6, cX, cV, cM⟩ := h
  have HX := hide (fun (W' : World) (hb : Below w.heap.size w W') => (hA.later hb).size)
  have a0 := fun o => alloc_cell c0 o
  have a1 := fun o => alloc_cell c1 o
  have aX := fun o => alloc_cell cX o
  have aV := fun o => alloc_cell cV o
  have aM := fun o => alloc_cell cM o
  have HBX : Hid (∀ w', Below ((w.alloc (.cells #[.int .i64 3, .int .i64 A, .int .i64 B, .int .i64 C, .int .i64 D, .int .u64 u, .int .u64 x, V, M, .string S] 38)).alloc (.cells #[.slice pv vs.length cv, .slice pm ms.length cm] 52)).heap.size ((w.alloc (.cells #[.int .i64 3, .int .i64 A, .int .i64 B, .int .i64 C, .int .i64 D, .int .u64 u, .int .u64 x, V, M, .string S] 38)).alloc (.cells #[.slice pv vs.length cv, .slice pm ms.length cm] 52)) w' →
      (w'.cell? ⟨w.heap.size + 1, 0, none⟩ = some (.slice pv vs.length cv) ∧ w'.cell? ⟨w.heap.size + 1, 1, none⟩ = some (.slice pm ms.length cm)) ∧ Below w.heap.size w w') := by
    intro w' hb
    obtain ⟨g1, g2, g3⟩ := two_boxes w _ _ _ _ hb
    exact ⟨⟨g2 0 _ rfl, g2 1 _ rfl⟩, g3⟩
  have HB2 : Hid (∀ o1 o2, Below w.heap.size w ((w.alloc o1).alloc o2)) := fun o1 o2 => bel2 w o1 o2
  clear hA rv rm c0 c1 cX cV cM
  generalize vs.length = nv at *
  generalize ms.length = mv at *
  go_enter Tryz.func17, Tryz.ntmps17
  go_wp2_with fail
  refine (unhide HX _ (unhide HB2 _ _)).mono ?_
  rintro e w1 ⟨rfl, hb1⟩
  obtain ⟨⟨k7, k8⟩, hbw⟩ := unhide HBX _ hb1
  have HBW := hide hbw
  clear hbw hb1 HX a0 a1 aX aV aM
  go_wp2
  go_ret
  exact ⟨ret_bool (by simp), unhide HBW⟩
end Lw
end Go.Proofs.YtolkjadklbchfaaGreatDoor
