import Derived.Test.YtolkjadklbchfaaGreatDoorG2
import Derived.Deep.RegionHeld3
import Derived.Test.YtolkjadklbchfaaGreatDoorP5
/- Walks of the law: full; the append of one sign. -/
open Go Go.RowKit
namespace Go.Proofs.YtolkjadklbchfaaGreatDoor
namespace Lw
open Mem Rf

/-- A row of one sign. -/
def Fu (w : World) (base : Nat) (v : Value) (n m : Nat) : Prop := w.ownsRow base 5 1 v n (By (List.replicate n m))

theorem By_rep (n m : Nat) : By (List.replicate n m) = List.replicate n (Value.int .u8 (m : Int)) := by simp [By]

set_option maxHeartbeats 400000 in
theorem full_any (p : Option Addr) (B n c m : Nat) (w : World) (hr : Rd B w (.slice p n c) (By (List.replicate n m))) (hn : n ≤ 1000000000000) :
    Calls Tryz.prog 18 #[.slice p n c, .int .u8 (m : Int)] w fun e w' => e = .returned (.bool true) ∧ w' = w := by
  have HR := hide hr
  clear hr
  go_enter Tryz.func18, Tryz.ntmps18
  go_wp2
  go_loop [5] (fun i => ∃ k : Nat, k ≤ n ∧ i = .int .i64 k) (fun i => n - (intOf i).toNat)
  case atStart => exact ⟨0, Nat.zero_le _, rfl⟩
  case round =>
    obtain ⟨k, hk, rfl⟩ := hrel
    by_cases hlt : k < n
    · obtain ⟨b, o, rfl, hb, hc⟩ := (unhide HR).at k (.int .u8 (m : Int)) (by rw [By_rep]; simp [hlt])
      go_wp2
      go_round
      case rel => exact ⟨k + 1, by omega, by go_num⟩
      case measure => simp [intOf]; omega
    · go_wp2
      go_ret
      exact ⟨rfl, rfl⟩

/-- append of one sign onto a row of that sign: every row of that sign stays one. -/
theorem run_app_full {P : Program} (w : World) (base : Nat) (t ty : TypeId) (e : TypeId) (i : TypeInfo) (z : Value) (bytes : Nat) (ht : P.underlying t = some (.slice e)) (hi : P.info? e = some i) (hz : i.zero = some z) (hsize : i.size = 1) (hby : i.bytes = bytes) (hzs : z.cells.size = 1)
    (l : Value) (n : Nat) (x : Value) (hx1 : x.oneCell' = true) (hown : w.ownsRow base e 1 l n (List.replicate n x)) (a : Addr) (j c : Nat) (hnews : ∀ q u, (List.replicate j x)[q]? = some u → w.cell? (a.add q) = some u)
    (h63 : n + j ≤ maxLen) (hbytes : (n + j) * bytes ≤ 140737488355328) (hbase : base ≤ w.heap.size) :
    ∃ v' w', (Builtin.append_ #[t, t] ty #[l, .slice (some a) j c]).run P w = .ok v' w' ∧ w'.ownsRow base e 1 v' (n + j) (List.replicate (n + j) x) ∧ w.grownBy w' l.ownBlock ∧ (v'.ownBlock = l.ownBlock ∨ v'.ownBlock = some w.heap.size) ∧
      ∀ b k, w.ownsRow base e 1 b k (List.replicate k x) → w'.ownsRow base e 1 b k (List.replicate k x) := by
  have h1 : ∀ u ∈ List.replicate j x, u.oneCell' = true := by
    intro u hu
    rw [(List.mem_replicate.1 hu).2]
    exact hx1
  obtain ⟨v', w', hr, ho, hg, _, hat⟩ := run_append_own_at (P := P) w base t ty e i z 1 bytes ht hi hz hsize hby hzs (by decide) l n _ hown a j c (List.replicate j x) (by simp) hnews h1 h63 hbytes hbase
  refine ⟨v', w', hr, by rw [List.replicate_append_replicate] at ho; exact ho, hg, hat, ?_⟩
  intro b k hb
  by_cases hne : ∃ g, b.ownBlock = some g ∧ l.ownBlock = some g
  · obtain ⟨g, hbg, hlg⟩ := hne
    rcases hown.2 with ⟨rfl, _⟩ | ⟨g1, cap1, cur1, rfl, hbg1, hgg1, hnc1, hcm1, hcs1, ht1⟩
    · cases hlg
    · simp [Value.ownBlock] at hlg
      subst hlg
      by_cases hroom : n + j ≤ cap1
      · have hfit : n * i.size + (List.replicate j x).length ≤ cur1.size := by rw [hsize]; simp; omega
        have hr2 := run_append_room (P := P) w t ty e i ht hi g1 n cap1 cur1 hgg1 a j c (List.replicate j x) (by rw [hsize]; simp) hnews h1 hroom hfit
        rw [hr2] at hr
        simp only [Result.ok.injEq] at hr
        obtain ⟨_, rfl⟩ := hr
        rcases hb.2 with ⟨rfl, _⟩ | ⟨g2, cap2, cur2, rfl, hbg2, hgg2, hnc2, hcm2, hcs2, ht2⟩
        · cases hbg
        · simp [Value.ownBlock] at hbg
          subst hbg
          rw [hgg1] at hgg2
          simp only [Option.some.injEq, Obj.cells.injEq, and_true] at hgg2
          have hcc : cur1 = cur2 := hgg2
          subst hcc
          refine ⟨hb.1, .inr ⟨g2, cap2, _, rfl, hbg2, setRow_heap w g2 cur1 _ e _ hgg1, hnc2, hcm2, ?_, ?_⟩⟩
          · simp only [hsize, List.size_toArray, List.length_append, List.length_take, List.length_drop, Array.length_toList, List.length_replicate]
            omega
          · apply List.ext_getElem?
            intro q
            have hq := congrArg (fun l => l[q]?) ht2
            simp only [hsize, Nat.mul_one, List.length_replicate] at hq ⊢
            by_cases hqk : q < k
            · rw [List.getElem?_take, if_pos hqk] at hq ⊢
              rw [List.getElem?_replicate, if_pos hqk] at hq ⊢
              by_cases hq1 : q < n
              · rw [List.getElem?_append_left (by simp; omega), List.getElem?_append_left (by simp; omega), List.getElem?_take, if_pos hq1]
                exact hq
              · by_cases hq2 : q < n + j
                · rw [List.getElem?_append_left (by simp; omega), List.getElem?_append_right (by simp; omega), List.getElem?_replicate, if_pos (by simp; omega)]
                · rw [List.getElem?_append_right (by simp; omega), List.getElem?_drop]
                  simp only [List.length_append, List.length_take, Array.length_toList, List.length_replicate]
                  rw [show n + j + (q - (min n cur1.size + j)) = q from by omega]
                  exact hq
            · rw [List.getElem?_eq_none (by simp; omega), List.getElem?_eq_none (by simp; omega)]
      · have holds : ∀ q u, (List.replicate n x)[q]? = some u → w.cell? ((⟨g1, 0, none⟩ : Addr).add q) = some u := hown.cells (g := g1) rfl
        have hr2 := run_append_grow (P := P) w t ty e i z ht hi hz ⟨g1, 0, none⟩ n cap1 (List.replicate n x) (by rw [hsize]; simp) holds a j c (List.replicate j x) (by rw [hsize]; simp) hnews (by omega) (by unfold maxLen at h63; omega) (growslice_fits (by omega) (by rw [hby]; exact hbytes))
        rw [hr2] at hr
        simp only [Result.ok.injEq] at hr
        obtain ⟨_, rfl⟩ := hr
        exact hb.drew.alloc _
  · refine own_kept hb hg ?_
    intro g hlg hbg
    exact hne ⟨g, hbg, hlg⟩

theorem wpList_app_full {P : Program} (w : World) {ops : Array Oper} {rest : List Oper} {o : Oper} {a : Act} {Q : Exit → Act → World → Prop} (hgd : o.guard = none) (s x : Operand) (t : TypeId)
    (ho : o.op = .call { callee := .builtin .append, args := #[s, x], argTypes := #[t, t] })
    (base : Nat) (ht : P.underlying t = some (.slice 5)) (hinfo : (P.info? 5).map (fun i => (i.zero, i.size, i.bytes)) = some (some (.int .u8 0), 1, 1))
    (l : Value) (n m : Nat) (hs : a.eval s = l) (hown : Fu w base l n m) (ad : Addr) (j c : Nat) (hx : a.eval x = .slice (some ad) j c) (hnews : ∀ q u, (List.replicate j (Value.int .u8 (m : Int)))[q]? = some u → w.cell? (ad.add q) = some u)
    (h63 : n + j ≤ 10000000000000) (hbase : base ≤ w.heap.size)
    (h : ∀ v' w', Fu w' base v' (n + j) m → w.grownBy w' l.ownBlock → (v'.ownBlock = l.ownBlock ∨ v'.ownBlock = some w.heap.size) → (∀ b k, Fu w base b k m → Fu w' base b k m) → wpList P ops Q rest (a.put o.dst v') w') :
    wpList P ops Q (o :: rest) a w := by
  obtain ⟨i, hi, hz, hsize, hby⟩ := info_parts hinfo
  obtain ⟨v', w', hr, h2, h3, h4, h5⟩ := run_app_full (P := P) w base t o.type 5 i (.int .u8 0) 1 ht hi hz hsize hby rfl l n (.int .u8 (m : Int)) rfl (by rw [← By_rep]; exact hown) ad j c hnews (by unfold maxLen; omega) (by omega) hbase
  refine wpList_plain hgd fun K hK => ?_
  unfold Oper.wp execOp
  simp only [ho, resolve, invoke, builtin, Sem.run_bind, Sem.run_pure, Result.andThen_ok, List.map_toArray, List.map_cons, List.map_nil, hs, hx, hr]
  refine hK _ _ (h v' w' ?_ h3 h4 ?_)
  · unfold Fu
    rw [By_rep]
    exact h2
  · intro b k hb
    unfold Fu at hb ⊢
    rw [By_rep] at hb ⊢
    exact h5 b k hb
end Lw
end Go.Proofs.YtolkjadklbchfaaGreatDoor
/- The law's world: what it holds, and that it keeps. -/
open Go Go.RowKit
namespace Go.Proofs.YtolkjadklbchfaaGreatDoor
namespace Lw
open Mem Rf Pr

structure It where
  X : Nat
  V : Value
  M : Value
  vs : List Nat
  ms : List Nat

structure Bk where
  l : Value
  a : Value
  b : Value
  c : Value
  n : Nat
  m : Nat

/-- The blocks that the law's world writes into. -/
def Mut (U : Nat) (xv yv bv : Value) (k : Nat) : Prop := k = U ∨ xv.ownBlock = some k ∨ yv.ownBlock = some k ∨ bv.ownBlock = some k

/-- Old blocks but those of M are as they were. -/
def Fr (M : Nat → Prop) (w w' : World) : Prop := w.heap.size ≤ w'.heap.size ∧ ∀ k, k < w.heap.size → ¬ M k → w'.heap[k]? = w.heap[k]?

def RdM (M : Nat → Prop) (w : World) (y : Value) (ys : List Value) : Prop := Rd w.heap.size w y ys ∧ (ys ≠ [] → ∀ k, y.ownBlock = some k → ¬ M k)

theorem Rd.same {B B' : Nat} {w w' : World} {y : Value} {ys : List Value} (h : Rd B w y ys) (hs : ys ≠ [] → ∀ k, y.ownBlock = some k → w'.heap[k]? = w.heap[k]?) (hB : B ≤ B') : Rd B' w' y ys := by
  obtain ⟨p, c, rfl, hlc, h⟩ := h
  refine ⟨p, c, rfl, hlc, ?_⟩
  rcases h with h | ⟨b, o, rfl, hlt, h⟩
  · exact .inl h
  · refine .inr ⟨b, o, rfl, by omega, fun j u hu => ?_⟩
    rw [World.cell?_of_block (a := ⟨b, o + j, none⟩) (hs (fun e => by rw [e] at hu; simp at hu) b rfl)]
    exact h j u hu

theorem RdM.fr {M M' : Nat → Prop} {w w' : World} {y : Value} {ys : List Value} (h : RdM M w y ys) (hf : Fr M w w') (hM : ∀ k, k < w.heap.size → M' k → M k) : RdM M' w' y ys := by
  have hlt := h.1.lt
  exact ⟨Rd.same h.1 (fun hn k hk => hf.2 k (hlt hn k hk) (h.2 hn k hk)) hf.1, fun hn k hk hm => h.2 hn k hk (hM k (hlt hn k hk) hm)⟩

theorem own_same {w w' : World} {base : Nat} {e : TypeId} {size : Nat} {v : Value} {n : Nat} {xs : List Value} (h : w.ownsRow base e size v n xs) (hs : ∀ k, v.ownBlock = some k → w'.heap[k]? = w.heap[k]?) : w'.ownsRow base e size v n xs := by
  refine ⟨h.1, ?_⟩
  rcases h.2 with hn | ⟨g, cap, cur, rfl, hbg, hgg, rest⟩
  · exact .inl hn
  · exact .inr ⟨g, cap, cur, rfl, hbg, by rw [hs g rfl]; exact hgg, rest⟩

theorem RowIn.same {lo hi : Nat} {w w' : World} {yw ya : Value} {l : List Bool} (h : RowIn lo hi w yw ya l) (hs : ∀ k, lo ≤ k → k < hi → w'.heap[k]? = w.heap[k]?) : RowIn lo hi w' yw ya l :=
  ⟨⟨own_same h.row.ow (fun k hk => hs k (h.row.ow.lt k hk).1 (h.lw k hk)), own_same h.row.oa (fun k hk => hs k (h.row.oa.lt k hk).1 (h.la k hk))⟩, h.lw, h.la⟩
theorem Idx.same {lo hi : Nat} {w w' : World} {X : Nat} {vs ms : List Nat} (h : Idx lo hi w X vs ms) (hs : ∀ k, lo ≤ k → k < hi → w'.heap[k]? = w.heap[k]?) : Idx lo hi w' X vs ms := by
  obtain ⟨w1, a1, w2, a2, w3, a3, hb, o1, o2, o3⟩ := h.blk
  exact ⟨h.at_, w1, a1, w2, a2, w3, a3, by rw [hs X h.at_.1 h.at_.2]; exact hb, RowIn.same o1 hs, RowIn.same o2 hs, RowIn.same o3 hs⟩

structure ItOk (M : Nat → Prop) (w : World) (i : It) : Prop where
  idx : ∃ lo hi, Idx lo hi w i.X i.vs i.ms ∧ hi ≤ w.heap.size ∧ ∀ k, lo ≤ k → k < hi → ¬ M k
  fit : Fits i.vs i.ms
  rv : RdM M w i.V (U64 i.vs)
  rm : RdM M w i.M (I64 (NI i.ms))

theorem ItOk.fr {M M' : Nat → Prop} {w w' : World} {i : It} (h : ItOk M w i) (hf : Fr M w w') (hM : ∀ k, k < w.heap.size → M' k → M k) : ItOk M' w' i := by
  obtain ⟨lo, hi, h1, h2, h3⟩ := h.idx
  refine ⟨⟨lo, hi, Idx.same h1 (fun k a b => hf.2 k (by omega) (h3 k a b)), Nat.le_trans h2 hf.1, fun k a b hm => h3 k a b (hM k (by omega) hm)⟩, h.fit, h.rv.fr hf hM, h.rm.fr hf hM⟩

structure BkOk (M : Nat → Prop) (w : World) (b : Bk) : Prop where
  rl : RdM M w b.l (By (List.replicate b.n b.m))
  ra : RdM M w b.a (By (List.replicate (b.n + 1) b.m))
  rb : RdM M w b.b (By (List.replicate (b.n + 2) b.m))
  rc : RdM M w b.c (By (List.replicate (b.n + 3) b.m))
  rn : b.n ≤ 1000000000

theorem BkOk.fr {M M' : Nat → Prop} {w w' : World} {b : Bk} (h : BkOk M w b) (hf : Fr M w w') (hM : ∀ k, k < w.heap.size → M' k → M k) : BkOk M' w' b :=
  ⟨h.rl.fr hf hM, h.ra.fr hf hM, h.rb.fr hf hM, h.rc.fr hf hM, h.rn⟩

def ptrs (is : List It) : List Value := is.map fun i => .pointer (some ⟨i.X, 0, none⟩)
def refs (is : List It) : List Value := is.flatMap fun i => [i.V, i.M]
def bks (bs : List Bk) : List Value := bs.flatMap fun b => [b.l, b.a, b.b, b.c, .int .u8 (b.m : Int)]

/-- The law's world in memory. -/
structure WSt (base U : Nat) (W0 w : World) (xv yv bv : Value) (is : List It) (bs : List Bk) : Prop where
  u0 : base ≤ U
  blk : w.heap[U]? = some (.cells #[xv, yv, bv] 32 (0, 0))
  ox : w.ownsRow base 41 1 xv is.length (ptrs is)
  oy : w.ownsRow base 52 2 yv is.length (refs is)
  ob : w.ownsRow base 56 5 bv bs.length (bks bs)
  xy : Ap xv yv
  xb : Ap xv bv
  yb : Ap yv bv
  xu : xv.ownBlock ≠ some U
  yu : yv.ownBlock ≠ some U
  bu : bv.ownBlock ≠ some U
  its : ∀ i ∈ is, ItOk (Mut U xv yv bv) w i
  bok : ∀ b ∈ bs, BkOk (Mut U xv yv bv) w b
  ilen : is.length ≤ 6
  bel : Below base W0 w

theorem WSt.ult {base U : Nat} {W0 w : World} {xv yv bv : Value} {is : List It} {bs : List Bk} (h : WSt base U W0 w xv yv bv is bs) : U < w.heap.size := (Array.getElem?_eq_some_iff.1 h.blk).1

theorem Below.fr {M : Nat → Prop} {w w' : World} (h : Below w.heap.size w w') : Fr M w w' := ⟨h.size, fun k hk _ => h.block k hk⟩

/-- Nothing old is written: all is as it was. -/
theorem WSt.below {base U : Nat} {W0 w w' : World} {xv yv bv : Value} {is : List It} {bs : List Bk} (h : WSt base U W0 w xv yv bv is bs) (hb : Below w.heap.size w w') : WSt base U W0 w' xv yv bv is bs := by
  have hu := h.ult
  have hbase : base ≤ w.heap.size := by have := h.u0; omega
  exact ⟨h.u0, by rw [hb.block U hu]; exact h.blk, own_later h.ox hb, own_later h.oy hb, own_later h.ob hb, h.xy, h.xb, h.yb, h.xu, h.yu, h.bu,
    fun i hi => (h.its i hi).fr (Below.fr hb) (fun _ _ m => m), fun b hi => (h.bok b hi).fr (Below.fr hb) (fun _ _ m => m), h.ilen, h.bel.trans (hb.mono hbase)⟩

theorem WSt.cells {base U : Nat} {W0 w : World} {xv yv bv : Value} {is : List It} {bs : List Bk} (h : WSt base U W0 w xv yv bv is bs) :
    w.cell? ⟨U, 0, none⟩ = some xv ∧ w.cell? ⟨U, 1, none⟩ = some yv ∧ w.cell? ⟨U, 2, none⟩ = some bv ∧ ∀ j, w.frozen? ⟨U, j, none⟩ = false := by
  refine ⟨?_, ?_, ?_, fun j => frozen_of_row w U j _ _ h.blk⟩ <;> (rw [cell_of_row _ _ _ _ _ (0, 0) h.blk]; rfl)

/-- append of one element of many cells, at a step of a region that draws its order, and in a plain region. -/
theorem wp_appN {P : Program} (w : World) {o : Oper} {a : Act} {K : Act → World → Prop} {Q : Exit → Act → World → Prop} (s x : Operand) (t : TypeId)
    (ho : o.op = .call { callee := .builtin .append, args := #[s, x], argTypes := #[t, t] })
    (base : Nat) (e : TypeId) (z : Value) (size bytes : Nat) (ht : P.underlying t = some (.slice e)) (hinfo : (P.info? e).map (fun i => (i.zero, i.size, i.bytes)) = some (some z, size, bytes)) (hzs : z.cells.size = size) (hsz : 0 < size)
    (v : Value) (n : Nat) (xs : List Value) (hs : a.eval s = v) (hown : w.ownsRow base e size v n xs)
    (ad : Addr) (news : List Value) (hx : a.eval x = .slice (some ad) 1 1) (hl : news.length = size) (hnews : ∀ j u, news[j]? = some u → w.cell? (ad.add j) = some u) (h1 : ∀ u ∈ news, u.oneCell' = true)
    (h63 : n + 1 ≤ maxLen) (hbytes : (n + 1) * bytes ≤ 140737488355328) (hbase : base ≤ w.heap.size)
    (h : ∀ v' w', w'.ownsRow base e size v' (n + 1) (xs ++ news) → w.grownBy w' v.ownBlock → (v'.ownBlock = v.ownBlock ∨ v'.ownBlock = some w.heap.size) → K (a.put o.dst v') w') : o.wp P a w K Q := by
  obtain ⟨i, hi, hz, hsize, hby⟩ := info_parts hinfo
  obtain ⟨v', w', hr, h2, h3, h4, h5⟩ := run_append_own_at (P := P) w base t o.type e i z size bytes ht hi hz hsize hby hzs hsz v n xs hown ad 1 1 news (by rw [hl, Nat.one_mul]) hnews h1 h63 hbytes hbase
  unfold Oper.wp execOp
  simp only [ho, resolve, invoke, builtin, Sem.run_bind, Sem.run_pure, Result.andThen_ok, List.map_toArray, List.map_cons, List.map_nil, hs, hx, hr]
  exact h v' w' h2 h3 h5

theorem step_appN {P : Program} (w : World) {ops : Array Oper} {o : Oper} {a : Act} {K : Act → World → Prop} {Q : Exit → Act → World → Prop} {E : Prop} (hgd : o.guard = none) (s x : Operand) (t : TypeId)
    (ho : o.op = .call { callee := .builtin .append, args := #[s, x], argTypes := #[t, t] })
    (base : Nat) (e : TypeId) (z : Value) (size bytes : Nat) (ht : P.underlying t = some (.slice e)) (hinfo : (P.info? e).map (fun i => (i.zero, i.size, i.bytes)) = some (some z, size, bytes)) (hzs : z.cells.size = size) (hsz : 0 < size)
    (v : Value) (n : Nat) (xs : List Value) (hs : a.eval s = v) (hown : w.ownsRow base e size v n xs)
    (ad : Addr) (news : List Value) (hx : a.eval x = .slice (some ad) 1 1) (hl : news.length = size) (hnews : ∀ j u, news[j]? = some u → w.cell? (ad.add j) = some u) (h1 : ∀ u ∈ news, u.oneCell' = true)
    (h63 : n + 1 ≤ maxLen) (hbytes : (n + 1) * bytes ≤ 140737488355328) (hbase : base ≤ w.heap.size)
    (h : ∀ v' w', w'.ownsRow base e size v' (n + 1) (xs ++ news) → w.grownBy w' v.ownBlock → (v'.ownBlock = v.ownBlock ∨ v'.ownBlock = some w.heap.size) → K (a.put o.dst v') w') :
    if Region.wanted o (yielded ops a.tmps) = true then Oper.wp P o a w K Q else E := by
  have hw : Region.wanted o (yielded ops a.tmps) = true := by simp [Region.wanted, hgd]
  rw [if_pos hw]
  exact wp_appN w s x t ho base e z size bytes ht hinfo hzs hsz v n xs hs hown ad news hx hl hnews h1 h63 hbytes hbase h

theorem wpList_appN {P : Program} (w : World) {ops : Array Oper} {rest : List Oper} {o : Oper} {a : Act} {Q : Exit → Act → World → Prop} (hgd : o.guard = none) (s x : Operand) (t : TypeId)
    (ho : o.op = .call { callee := .builtin .append, args := #[s, x], argTypes := #[t, t] })
    (base : Nat) (e : TypeId) (z : Value) (size bytes : Nat) (ht : P.underlying t = some (.slice e)) (hinfo : (P.info? e).map (fun i => (i.zero, i.size, i.bytes)) = some (some z, size, bytes)) (hzs : z.cells.size = size) (hsz : 0 < size)
    (v : Value) (n : Nat) (xs : List Value) (hs : a.eval s = v) (hown : w.ownsRow base e size v n xs)
    (ad : Addr) (news : List Value) (hx : a.eval x = .slice (some ad) 1 1) (hl : news.length = size) (hnews : ∀ j u, news[j]? = some u → w.cell? (ad.add j) = some u) (h1 : ∀ u ∈ news, u.oneCell' = true)
    (h63 : n + 1 ≤ maxLen) (hbytes : (n + 1) * bytes ≤ 140737488355328) (hbase : base ≤ w.heap.size)
    (h : ∀ v' w', w'.ownsRow base e size v' (n + 1) (xs ++ news) → w.grownBy w' v.ownBlock → (v'.ownBlock = v.ownBlock ∨ v'.ownBlock = some w.heap.size) → wpList P ops Q rest (a.put o.dst v') w') :
    wpList P ops Q (o :: rest) a w :=
  wpList_plain hgd fun _ hK => wp_appN w s x t ho base e z size bytes ht hinfo hzs hsz v n xs hs hown ad news hx hl hnews h1 h63 hbytes hbase fun v' w' a b c => hK _ _ (h v' w' a b c)

/-- The cells of a literal in a new block. -/
theorem lit_news (W : World) (cs : List Value) (H : Nat) (t : TypeId) (hH : W.heap.size = H) : ∀ q u, cs[q]? = some u → (W.alloc (.cells cs.toArray t)).cell? ((⟨H, 0, none⟩ : Addr).add q) = some u := by
  intro q u hu
  subst hH
  rw [Addr.add_lit, Nat.zero_add, cell_of_row _ _ _ _ _ (0, 0) (heap_alloc_new W _)]
  simpa using hu

/-- Behind keep's last statement. -/
theorem WSt.kept {base U : Nat} {W0 w0 W w1 : World} {xv yv bv bv' : Value} {is : List It} {bs : List Bk} {b : Bk} {o : Obj} (h : WSt base U W0 w0 xv yv bv is bs) (hbW : Below w0.heap.size w0 W)
    (hown : w1.ownsRow base 56 5 bv' (bs.length + 1) (bks bs ++ [b.l, b.a, b.b, b.c, .int .u8 (b.m : Int)])) (hg : (W.alloc o).grownBy w1 bv.ownBlock) (hat : bv'.ownBlock = bv.ownBlock ∨ bv'.ownBlock = some (W.alloc o).heap.size)
    (fl : Fu W w0.heap.size b.l b.n b.m) (fa : Fu W w0.heap.size b.a (b.n + 1) b.m) (fb : Fu W w0.heap.size b.b (b.n + 2) b.m) (fc : Fu W w0.heap.size b.c (b.n + 3) b.m) (hn : b.n ≤ 1000000000) :
    w1.cell? ⟨U, 2, none⟩ = some bv ∧ w1.frozen? ⟨U, 2, none⟩ = false ∧ WSt base U W0 (w1.setCell ⟨U, 2, none⟩ bv') xv yv bv' is (bs ++ [b]) := by
  have hul := h.ult
  have hs0 := hbW.size
  have hs1 := hg.size
  simp at hs1
  have hbase : base ≤ w0.heap.size := by have := h.u0; omega
  have st1 : ∀ k, k < W.heap.size → bv.ownBlock ≠ some k → w1.heap[k]? = W.heap[k]? := by
    intro k hk hne
    rw [hg.block k (by simp; omega) (fun e => hne e.symm)]
    exact Below.heap_alloc _ _ _ hk
  have bU : w1.heap[U]? = some (.cells #[xv, yv, bv] 32 (0, 0)) := by
    rw [st1 U (by omega) h.bu, hbW.block U hul]
    exact h.blk
  have nlt : ∀ k, bv'.ownBlock = some k → bv.ownBlock = some k ∨ W.heap.size < k := by
    intro k hk
    rcases hat with q | q
    · exact .inl (q ▸ hk)
    · rw [q] at hk
      simp at hk
      exact .inr (by omega)
  have blt : ∀ k, bv.ownBlock = some k → k < w0.heap.size := fun k hk => (h.ob.lt k hk).2
  have xlt : ∀ k, xv.ownBlock = some k → k < w0.heap.size := fun k hk => (h.ox.lt k hk).2
  have ylt : ∀ k, yv.ownBlock = some k → k < w0.heap.size := fun k hk => (h.oy.lt k hk).2
  have setU : ∀ k, k ≠ U → (w1.setCell ⟨U, 2, none⟩ bv').heap[k]? = w1.heap[k]? := fun k hk => Below.heap_setCell _ _ _ _ hk
  have hfr : Fr (Mut U xv yv bv) w0 (w1.setCell ⟨U, 2, none⟩ bv') := by
    refine ⟨by simp; omega, fun k hk hm => ?_⟩
    rw [setU k (fun e => hm (.inl e)), st1 k (by omega) (fun e => hm (.inr (.inr (.inr e)))), hbW.block k hk]
  have hM : ∀ k, k < w0.heap.size → Mut U xv yv bv' k → Mut U xv yv bv k := by
    intro k hk hm
    rcases hm with q | q | q | q
    · exact .inl q
    · exact .inr (.inl q)
    · exact .inr (.inr (.inl q))
    · rcases nlt k q with r | r
      · exact .inr (.inr (.inr r))
      · omega
  have new : ∀ {y : Value} {n m : Nat}, Fu W w0.heap.size y n m → RdM (Mut U xv yv bv') (w1.setCell ⟨U, 2, none⟩ bv') y (By (List.replicate n m)) := by
    intro y n m hf
    refine ⟨Rd.same (Rd.owned hf) (fun _ k hk => ?_) (by simp; omega), fun _ k hk hm => ?_⟩
    · have := hf.lt k hk
      rw [setU k (by omega), st1 k (by omega) (fun e => by have := blt k e; omega)]
    · have := hf.lt k hk
      rcases hm with q | q | q | q
      · omega
      · have := xlt k q; omega
      · have := ylt k q; omega
      · rcases nlt k q with r | r
        · have := blt k r; omega
        · omega
  have nbU : bv'.ownBlock ≠ some U := by
    intro e
    rcases nlt U e with r | r
    · exact h.bu r
    · omega
  refine ⟨by rw [cell_of_row _ _ _ _ _ (0, 0) bU]; rfl, frozen_of_row _ _ _ _ _ bU, h.u0, ?_, ?_, ?_, ?_, h.xy, ?_, ?_, h.xu, h.yu, nbU, ?_, ?_, h.ilen, ?_⟩
  · rw [heap_setCell_same w1 U 2 _ _ _ bU]
    rfl
  · refine own_same (own_later h.ox hbW) (fun k hk => ?_)
    have := xlt k hk
    rw [setU k (fun e => h.xu (e ▸ hk)), st1 k (by omega) (fun e => h.xb k hk e)]
  · refine own_same (own_later h.oy hbW) (fun k hk => ?_)
    have := ylt k hk
    rw [setU k (fun e => h.yu (e ▸ hk)), st1 k (by omega) (fun e => h.yb k hk e)]
  · rw [List.length_append]
    have e : bks (bs ++ [b]) = bks bs ++ [b.l, b.a, b.b, b.c, .int .u8 (b.m : Int)] := by simp [bks]
    rw [e]
    exact own_setCell_ne hown (fun g hgg e => by simp only at e; subst e; exact nbU hgg) _
  · intro k hk e
    have := xlt k hk
    rcases nlt k e with r | r
    · exact h.xb k hk r
    · omega
  · intro k hk e
    have := ylt k hk
    rcases nlt k e with r | r
    · exact h.yb k hk r
    · omega
  · exact fun i hi => (h.its i hi).fr hfr hM
  · intro c hc
    rcases List.mem_append.1 hc with q | q
    · exact (h.bok c q).fr hfr hM
    · simp at q
      subst q
      exact ⟨new fl, new fa, new fb, new fc, hn⟩
  · refine (((h.bel.trans (hbW.mono hbase)).alloc (by omega) o).grown hg (by simp; omega) (fun k hk => (h.ob.lt k hk).1)).setCell h.u0 _
end Lw
end Go.Proofs.YtolkjadklbchfaaGreatDoor
/- Walks of the law: looks. -/
open Go Go.RowKit
namespace Go.Proofs.YtolkjadklbchfaaGreatDoor
namespace Lw
open Mem Rf Pr

theorem full_v {y : Value} {B n m : Nat} {w : World} (hr : Rd B w y (By (List.replicate n m))) (hn : n ≤ 1000000000000) : Calls Tryz.prog 18 #[y, .int .u8 (m : Int)] w fun e w' => e = .returned (.bool true) ∧ w' = w := by
  obtain ⟨p, c, rfl, _⟩ := hr.form
  have hl : (By (List.replicate n m)).length = n := by rw [By_len]; simp
  rw [hl] at hr ⊢
  exact full_any p B n c m w hr hn

theorem bks_len (bs : List Bk) : (bks bs).length = bs.length * 5 := by
  induction bs with
  | nil => rfl
  | cons b l ih =>
    have : bks (b :: l) = [b.l, b.a, b.b, b.c, .int .u8 (b.m : Int)] ++ bks l := by simp [bks]
    rw [this, List.length_append, ih]
    simp only [List.length_cons, List.length_nil]
    omega
theorem bks_at (bs : List Bk) (i : Nat) (h : i < bs.length) : (bks bs)[i * 5]? = some bs[i].l ∧ (bks bs)[i * 5 + 1]? = some bs[i].a ∧ (bks bs)[i * 5 + 2]? = some bs[i].b ∧ (bks bs)[i * 5 + 3]? = some bs[i].c ∧ (bks bs)[i * 5 + 4]? = some (.int .u8 (bs[i].m : Int)) := by
  induction bs generalizing i with
  | nil => simp at h
  | cons b l ih =>
    have e : bks (b :: l) = [b.l, b.a, b.b, b.c, .int .u8 (b.m : Int)] ++ bks l := by simp [bks]
    cases i with
    | zero => rw [e]; simp
    | succ i =>
      have := ih i (by simpa using h)
      rw [e]
      have q : ∀ j, j < 5 → ([b.l, b.a, b.b, b.c, .int .u8 (b.m : Int)] ++ bks l)[(i + 1) * 5 + j]? = (bks l)[i * 5 + j]? := by
        intro j hj
        rw [List.getElem?_append_right (by simp; omega)]
        congr 1
        simp
        omega
      have q0 := q 0 (by omega)
      simp only [Nat.add_zero] at q0
      rw [q0, q 1 (by omega), q 2 (by omega), q 3 (by omega), q 4 (by omega)]
      simpa using this

/-- The cells of an owned row of five-cell elements. -/
theorem own_form5 {w : World} {base : Nat} {e : TypeId} {v : Value} {n : Nat} {xs : List Value} (h : w.ownsRow base e 5 v n xs) (hn : 0 < n) :
    ∃ g cap, v = .slice (some ⟨g, 0, none⟩) n cap ∧ n ≤ cap ∧ base ≤ g ∧ g < w.heap.size ∧ (∀ j u, xs[j]? = some u → w.cell? ⟨g, j, none⟩ = some u) := by
  rcases h.2 with ⟨_, h0⟩ | ⟨g, cap, cur, rfl, hbg, hgg, hnc, hcm, hcs, ht⟩
  · omega
  · refine ⟨g, cap, rfl, hnc, hbg, (Array.getElem?_eq_some_iff.1 hgg).1, ?_⟩
    intro j u hu
    have hj : j < n * 5 := by rw [← h.1]; exact (List.getElem?_eq_some_iff.1 hu).1
    rw [h.cellAt j hj, hu]

set_option maxHeartbeats 2000000 in
theorem looks_any (base U : Nat) (W0 w : World) (xv yv bv : Value) (is : List It) (bs : List Bk) (h : WSt base U W0 w xv yv bv is bs) (hbs : bs.length ≤ 1300000000000) :
    Calls Tryz.prog 9 #[.pointer (some ⟨U, 2, none⟩)] w fun e w' => e = .returned (.bool true) ∧ Below w.heap.size w w' := by
  have hc := h.cells.2.2.1
  obtain ⟨pb, cb, rfl, hcb⟩ := own_slice h.ob
  have HH := hide h
  have hul := h.ult
  clear h
  go_enter Tryz.func9, Tryz.ntmps9
  go_wp2
  go_loopw [3] (fun ii wr => ∃ i : Nat, i ≤ bs.length ∧ ii = .int .i64 i ∧ Below w.heap.size w wr) (fun ii _ => bs.length - (intOf ii).toNat)
  case atStart => exact ⟨0, Nat.zero_le _, rfl, Below.refl _ _⟩
  case round =>
    obtain ⟨i, hi, rfl, hbel⟩ := hrel
    have hcr : wr.cell? ⟨U, 2, none⟩ = some (.slice pb bs.length cb) := (hbel.cell (p := ⟨U, 2, none⟩) hul).trans hc
    have HB := hide hbel
    have hwr := hbel.size
    clear hc hbel
    by_cases hlt : i < bs.length
    · obtain ⟨g, cap, he, hcap, hbg, hg, hcells⟩ := own_form5 (unhide HH).ob (by omega)
      simp only [Value.slice.injEq] at he
      obtain ⟨rfl, _, rfl⟩ := he
      have hat := bks_at bs i hlt
      have hbel := unhide HB
      have e0 := (hbel.cell (p := ⟨g, i * 5, none⟩) hg).trans (hcells _ _ hat.1)
      have e1 := (hbel.cell (p := ⟨g, i * 5 + 1, none⟩) hg).trans (hcells _ _ hat.2.1)
      have e2 := (hbel.cell (p := ⟨g, i * 5 + 2, none⟩) hg).trans (hcells _ _ hat.2.2.1)
      have e3 := (hbel.cell (p := ⟨g, i * 5 + 3, none⟩) hg).trans (hcells _ _ hat.2.2.2.1)
      have e4 := (hbel.cell (p := ⟨g, i * 5 + 4, none⟩) hg).trans (hcells _ _ hat.2.2.2.2)
      have hok := (unhide HH).bok bs[i] (List.getElem_mem hlt)
      have hn := hok.rn
      have R1 := hide (fun o => (hok.rl.1.below hbel).alloc hwr o)
      have R2 := hide (fun o => (hok.ra.1.below hbel).alloc hwr o)
      have R3 := hide (fun o => (hok.rb.1.below hbel).alloc hwr o)
      have R4 := hide (fun o => (hok.rc.1.below hbel).alloc hwr o)
      obtain ⟨p1, c1, f1, _⟩ := hok.rl.1.form
      obtain ⟨p2, c2, f2, _⟩ := hok.ra.1.form
      obtain ⟨p3, c3, f3, _⟩ := hok.rb.1.form
      obtain ⟨p4, c4, f4, _⟩ := hok.rc.1.form
      rw [By_len, List.length_replicate] at f1 f2 f3 f4
      rw [f1] at e0 R1
      rw [f2] at e1 R2
      rw [f3] at e2 R3
      rw [f4] at e3 R4
      clear hat hcells hbel hok f1 f2 f3 f4
      generalize bs[i].n = q at *
      generalize bs[i].m = mm at *
      go_wp2_with fail
      refine at_same (full_any p1 _ q c1 mm _ (unhide R1 _) (by omega)) ?_
      go_wp2_with fail
      refine at_same (full_any p2 _ (q + 1) c2 mm _ (unhide R2 _) (by omega)) ?_
      go_wp2_with fail
      refine at_same (full_any p3 _ (q + 2) c3 mm _ (unhide R3 _) (by omega)) ?_
      go_wp2_with fail
      refine at_same (full_any p4 _ (q + 3) c4 mm _ (unhide R4 _) (by omega)) ?_
      go_wp2
      go_roundw
      case rel => exact ⟨i + 1, by omega, by go_num, (unhide HB).alloc hwr _⟩
      case measure => simp [intOf]; omega
    · go_wp2
      go_ret
      exact ⟨rfl, unhide HB⟩
end Lw
end Go.Proofs.YtolkjadklbchfaaGreatDoor
