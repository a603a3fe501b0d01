/- Walks of the law: full; the append of one sign. -/
import Derived.Test.YtmefkcbchpjeoaaDoorRefC
import Derived.Deep.RegionHeld3
open Go Go.RowKit
namespace Go.Proofs.YtmefkcbchpjeoaaDoor
namespace Lw
open Mem Rf

/-- A row of one sign. -/
def Fu (w : World) (base : Nat) (v : Value) (n m : Nat) : Prop := w.ownsRow base 5 1 v n (By (List.replicate n m))

theorem By_rep (n m : Nat) : By (List.replicate n m) = List.replicate n (Value.int .u8 (m : Int)) := by simp [By]

set_option maxHeartbeats 400000 in
theorem full_any (p : Option Addr) (B n c m : Nat) (w : World) (hr : Rd B w (.slice p n c) (By (List.replicate n m))) (hn : n ≤ 1000000000000) :
    Calls Tryd.prog 16 #[.slice p n c, .int .u8 (m : Int)] w fun e w' => e = .returned (.bool true) ∧ w' = w := by
  have HR := hide hr
  clear hr
  go_enter Tryd.func16, Tryd.ntmps16
  go_wp2
  go_loop [5] (fun i => ∃ k : Nat, k ≤ n ∧ i = .int .i64 k) (fun i => n - (intOf i).toNat)
  case atStart => exact ⟨0, Nat.zero_le _, rfl⟩
  case round =>
    obtain ⟨k, hk, rfl⟩ := hrel
    by_cases hlt : k < n
    · obtain ⟨b, o, rfl, hb, hc⟩ := (unhide HR).at k (.int .u8 (m : Int)) (by rw [By_rep]; simp [hlt])
      go_wp2
      go_round
      case rel => exact ⟨k + 1, by omega, by go_num⟩
      case measure => simp [intOf]; omega
    · go_wp2
      go_ret
      exact ⟨rfl, rfl⟩

/-- append of one sign onto a row of that sign: every row of that sign stays one. -/
theorem run_app_full {P : Program} (w : World) (base : Nat) (t ty : TypeId) (e : TypeId) (i : TypeInfo) (z : Value) (bytes : Nat) (ht : P.underlying t = some (.slice e)) (hi : P.info? e = some i) (hz : i.zero = some z) (hsize : i.size = 1) (hby : i.bytes = bytes) (hzs : z.cells.size = 1)
    (l : Value) (n : Nat) (x : Value) (hx1 : x.oneCell' = true) (hown : w.ownsRow base e 1 l n (List.replicate n x)) (a : Addr) (j c : Nat) (hnews : ∀ q u, (List.replicate j x)[q]? = some u → w.cell? (a.add q) = some u)
    (h63 : n + j ≤ maxLen) (hbytes : (n + j) * bytes ≤ 140737488355328) (hbase : base ≤ w.heap.size) :
    ∃ v' w', (Builtin.append_ #[t, t] ty #[l, .slice (some a) j c]).run P w = .ok v' w' ∧ w'.ownsRow base e 1 v' (n + j) (List.replicate (n + j) x) ∧ w.grownBy w' l.ownBlock ∧ (v'.ownBlock = l.ownBlock ∨ v'.ownBlock = some w.heap.size) ∧
      ∀ b k, w.ownsRow base e 1 b k (List.replicate k x) → w'.ownsRow base e 1 b k (List.replicate k x) := by
  have h1 : ∀ u ∈ List.replicate j x, u.oneCell' = true := by
    intro u hu
    rw [(List.mem_replicate.1 hu).2]
    exact hx1
  obtain ⟨v', w', hr, ho, hg, _, hat⟩ := run_append_own_at (P := P) w base t ty e i z 1 bytes ht hi hz hsize hby hzs (by decide) l n _ hown a j c (List.replicate j x) (by simp) hnews h1 h63 hbytes hbase
  refine ⟨v', w', hr, by rw [List.replicate_append_replicate] at ho; exact ho, hg, hat, ?_⟩
  intro b k hb
  by_cases hne : ∃ g, b.ownBlock = some g ∧ l.ownBlock = some g
  · obtain ⟨g, hbg, hlg⟩ := hne
    rcases hown.2 with ⟨rfl, _⟩ | ⟨g1, cap1, cur1, rfl, hbg1, hgg1, hnc1, hcm1, hcs1, ht1⟩
    · cases hlg
    · simp [Value.ownBlock] at hlg
      subst hlg
      by_cases hroom : n + j ≤ cap1
      · have hfit : n * i.size + (List.replicate j x).length ≤ cur1.size := by rw [hsize]; simp; omega
        have hr2 := run_append_room (P := P) w t ty e i ht hi g1 n cap1 cur1 hgg1 a j c (List.replicate j x) (by rw [hsize]; simp) hnews h1 hroom hfit
        rw [hr2] at hr
        simp only [Result.ok.injEq] at hr
        obtain ⟨_, rfl⟩ := hr
        rcases hb.2 with ⟨rfl, _⟩ | ⟨g2, cap2, cur2, rfl, hbg2, hgg2, hnc2, hcm2, hcs2, ht2⟩
        · cases hbg
        · simp [Value.ownBlock] at hbg
          subst hbg
          rw [hgg1] at hgg2
          simp only [Option.some.injEq, Obj.cells.injEq, and_true] at hgg2
          have hcc : cur1 = cur2 := hgg2
          subst hcc
          refine ⟨hb.1, .inr ⟨g2, cap2, _, rfl, hbg2, setRow_heap w g2 cur1 _ e _ hgg1, hnc2, hcm2, ?_, ?_⟩⟩
          · simp only [hsize, List.size_toArray, List.length_append, List.length_take, List.length_drop, Array.length_toList, List.length_replicate]
            omega
          · apply List.ext_getElem?
            intro q
            have hq := congrArg (fun l => l[q]?) ht2
            simp only [hsize, Nat.mul_one, List.length_replicate] at hq ⊢
            by_cases hqk : q < k
            · rw [List.getElem?_take, if_pos hqk] at hq ⊢
              rw [List.getElem?_replicate, if_pos hqk] at hq ⊢
              by_cases hq1 : q < n
              · rw [List.getElem?_append_left (by simp; omega), List.getElem?_append_left (by simp; omega), List.getElem?_take, if_pos hq1]
                exact hq
              · by_cases hq2 : q < n + j
                · rw [List.getElem?_append_left (by simp; omega), List.getElem?_append_right (by simp; omega), List.getElem?_replicate, if_pos (by simp; omega)]
                · rw [List.getElem?_append_right (by simp; omega), List.getElem?_drop]
                  simp only [List.length_append, List.length_take, Array.length_toList, List.length_replicate]
                  rw [show n + j + (q - (min n cur1.size + j)) = q from by omega]
                  exact hq
            · rw [List.getElem?_eq_none (by simp; omega), List.getElem?_eq_none (by simp; omega)]
      · have holds : ∀ q u, (List.replicate n x)[q]? = some u → w.cell? ((⟨g1, 0, none⟩ : Addr).add q) = some u := hown.cells (g := g1) rfl
        have hr2 := run_append_grow (P := P) w t ty e i z ht hi hz ⟨g1, 0, none⟩ n cap1 (List.replicate n x) (by rw [hsize]; simp) holds a j c (List.replicate j x) (by rw [hsize]; simp) hnews (by omega) (by unfold maxLen at h63; omega) (growslice_fits (by omega) (by rw [hby]; exact hbytes))
        rw [hr2] at hr
        simp only [Result.ok.injEq] at hr
        obtain ⟨_, rfl⟩ := hr
        exact hb.drew.alloc _
  · refine own_kept hb hg ?_
    intro g hlg hbg
    exact hne ⟨g, hbg, hlg⟩

theorem wpList_app_full {P : Program} (w : World) {ops : Array Oper} {rest : List Oper} {o : Oper} {a : Act} {Q : Exit → Act → World → Prop} (hgd : o.guard = none) (s x : Operand) (t : TypeId)
    (ho : o.op = .call { callee := .builtin .append, args := #[s, x], argTypes := #[t, t] })
    (base : Nat) (ht : P.underlying t = some (.slice 5)) (hinfo : (P.info? 5).map (fun i => (i.zero, i.size, i.bytes)) = some (some (.int .u8 0), 1, 1))
    (l : Value) (n m : Nat) (hs : a.eval s = l) (hown : Fu w base l n m) (ad : Addr) (j c : Nat) (hx : a.eval x = .slice (some ad) j c) (hnews : ∀ q u, (List.replicate j (Value.int .u8 (m : Int)))[q]? = some u → w.cell? (ad.add q) = some u)
    (h63 : n + j ≤ 10000000000000) (hbase : base ≤ w.heap.size)
    (h : ∀ v' w', Fu w' base v' (n + j) m → w.grownBy w' l.ownBlock → (v'.ownBlock = l.ownBlock ∨ v'.ownBlock = some w.heap.size) → (∀ b k, Fu w base b k m → Fu w' base b k m) → wpList P ops Q rest (a.put o.dst v') w') :
    wpList P ops Q (o :: rest) a w := by
  obtain ⟨i, hi, hz, hsize, hby⟩ := info_parts hinfo
  obtain ⟨v', w', hr, h2, h3, h4, h5⟩ := run_app_full (P := P) w base t o.type 5 i (.int .u8 0) 1 ht hi hz hsize hby rfl l n (.int .u8 (m : Int)) rfl (by rw [← By_rep]; exact hown) ad j c hnews (by unfold maxLen; omega) (by omega) hbase
  refine wpList_plain hgd fun K hK => ?_
  unfold Oper.wp execOp
  simp only [ho, resolve, invoke, builtin, Sem.run_bind, Sem.run_pure, Result.andThen_ok, List.map_toArray, List.map_cons, List.map_nil, hs, hx, hr]
  refine hK _ _ (h v' w' ?_ h3 h4 ?_)
  · unfold Fu
    rw [By_rep]
    exact h2
  · intro b k hb
    unfold Fu at hb ⊢
    rw [By_rep] at hb ⊢
    exact h5 b k hb
end Lw
end Go.Proofs.YtmefkcbchpjeoaaDoor
