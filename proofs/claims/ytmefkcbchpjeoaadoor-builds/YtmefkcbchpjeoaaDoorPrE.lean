/- Walks of the program: bracket.Row. -/
import Derived.Test.YtmefkcbchpjeoaaDoorPrB
import Derived.Test.YtmefkcbchpjeoaaDoorRefF
open Go Go.RowKit
namespace Go.Proofs.YtmefkcbchpjeoaaDoor
namespace Pr
open Mem Rf

theorem zeroCells_one (z : Value) (k : Nat) : (Builtin.zeroCells #[z] k).toList = List.replicate k z := by
  unfold Builtin.zeroCells
  apply List.ext_getElem?
  intro j
  by_cases hj : j < k
  · simp [hj, Nat.mod_one]
  · simp [hj]
theorem run_appz_zero {P : Program} (w : World) (t u ty e : TypeId) (i : TypeInfo) (bytes : Nat) (ht : P.underlying t = some (.slice e)) (hu : P.underlying u = some (.int .i64)) (hi : P.info? e = some i)
    (hby : i.bytes = bytes) (p : Option Addr) (n cap : Nat) (hn : n ≤ cap) :
    (Builtin.append_ #[t, u] ty #[.slice p n cap, .int .i64 0]).run P w = .ok (.slice p n cap) w := by
  have hw : IntKind.i64.wrap 0 = 0 := by rw [IntKind.wrap_i64]; omega
  cases p <;> simp [Builtin.append_, run_underlying ht, run_underlying hu, sizeOf, typeInfo, hi, hby, asInt, asIntOf, hw, hn, storeCells]

theorem run_appz_room {P : Program} (w : World) (t u ty e : TypeId) (i : TypeInfo) (z : Value) (bytes : Nat) (ht : P.underlying t = some (.slice e)) (hu : P.underlying u = some (.int .i64)) (hi : P.info? e = some i) (hz : i.zero = some z)
    (hsize : i.size = 1) (hby : i.bytes = bytes) (hzc : z.cells = #[z]) (hz1 : z.oneCell' = true) (g n cap : Nat) (cur : Array Value) (hg : w.heap[g]? = some (.cells cur e (0, 0)))
    (k : Nat) (hk : k ≤ 1000000000) (hk1 : 0 < k) (hb : bytes ≤ 1000) (hroom : n + k ≤ cap) (hfit : n + k ≤ cur.size) :
    (Builtin.append_ #[t, u] ty #[.slice (some ⟨g, 0, none⟩) n cap, .int .i64 (k : Int)]).run P w =
      .ok (.slice (some ⟨g, 0, none⟩) (n + k) cap) (w.setRow g (cur.toList.take n ++ List.replicate k z ++ cur.toList.drop (n + k)).toArray) := by
  have hst := run_storeCells_at P g n e (List.replicate k z) 0 cur w hg (by simpa using hfit) (by intro u hu; rw [(List.mem_replicate.1 hu).2]; exact hz1)
  simp only [Nat.add_zero, List.length_replicate] at hst
  have hw : IntKind.i64.wrap (k : Int) = k := by rw [IntKind.wrap_i64]; omega
  have h48 : ¬ (281474976710656 < (k : Int) * (bytes : Int)) := by
    have : k * bytes ≤ 1000000000 * 1000 := Nat.mul_le_mul hk hb
    have e : (k : Int) * (bytes : Int) = ((k * bytes : Nat) : Int) := by simp
    rw [e]; omega
  have hk0 : ¬ ((k : Int) < 0) := by omega
  have hk3 : ¬ (k = 0) := by omega
  simp [Builtin.append_, run_underlying ht, run_underlying hu, sizeOf, typeInfo, hi, hsize, hby, asInt, asIntOf, hw, h48, hk0, hk3, hroom, Addr.add_lit, hst, zeroValue, hz, hzc, zeroCells_one]

theorem run_appz_grow {P : Program} (w : World) (t u ty e : TypeId) (i : TypeInfo) (z : Value) (bytes : Nat) (ht : P.underlying t = some (.slice e)) (hu : P.underlying u = some (.int .i64)) (hi : P.info? e = some i) (hz : i.zero = some z)
    (hsize : i.size = 1) (hby : i.bytes = bytes) (hzc : z.cells = #[z]) (p : Option Addr) (n cap : Nat) (olds : List Value)
    (hf : (Builtin.firstCells 1 n (.slice p n cap)).run P w.drew = .ok olds.toArray w.drew)
    (k : Nat) (hk : k ≤ 1000000000) (hk1 : 0 < k) (hn : n ≤ 1000000000) (hb : bytes ≤ 1000) (hroom : ¬ n + k ≤ cap) (hfit : Builtin.nextslicecap (n + k) cap * bytes ≤ 281474976710656) :
    (Builtin.append_ #[t, u] ty #[.slice p n cap, .int .i64 (k : Int)]).run P w =
      .ok (.slice (some ⟨w.heap.size, 0, none⟩) (n + k) (grownCap w (n + k) cap e)) (w.drew.alloc (.cells (olds.toArray ++ (List.replicate k z).toArray ++ Builtin.zeroCells z.cells (grownCap w (n + k) cap e - (n + k))) e)) := by
  have hw : IntKind.i64.wrap (k : Int) = k := by rw [IntKind.wrap_i64]; omega
  have h48 : ¬ (281474976710656 < (k : Int) * (bytes : Int)) := by
    have : k * bytes ≤ 1000000000 * 1000 := Nat.mul_le_mul hk hb
    have e : (k : Int) * (bytes : Int) = ((k * bytes : Nat) : Int) := by simp
    rw [e]; omega
  have hk0 : ¬ ((k : Int) < 0) := by omega
  have hk3 : ¬ (k = 0) := by omega
  have h63 : ¬ (9223372036854775807 < ((n : Int) + (k : Int))) := by omega
  have hfit' : ¬ (281474976710656 < Builtin.nextslicecap (n + k) cap * bytes) := by omega
  have hza : Builtin.zeroCells #[z] k = (List.replicate k z).toArray := by apply Array.ext'; rw [zeroCells_one]
  simp [Builtin.append_, run_underlying ht, run_underlying hu, sizeOf, typeInfo, hi, hsize, hby, asInt, asIntOf, hw, h48, hk0, hk3, hroom, h63, hfit', Question.forced, hf, newRow, grownCap, zeroValue, hz, hzc, hza]

/-- append(v, make([]T, k)...), v an owned row of one-cell elements. -/
theorem run_appz {P : Program} (w : World) (base : Nat) (t u ty e : TypeId) (i : TypeInfo) (z : Value) (bytes : Nat) (ht : P.underlying t = some (.slice e)) (hu : P.underlying u = some (.int .i64)) (hi : P.info? e = some i) (hz : i.zero = some z)
    (hsize : i.size = 1) (hby : i.bytes = bytes) (hzc : z.cells = #[z]) (hz1 : z.oneCell' = true)
    (v : Value) (n : Nat) (xs : List Value) (hown : w.ownsRow base e 1 v n xs) (k : Nat) (hk : k ≤ 1000000000) (hn : n ≤ 1000000000) (hb : bytes ≤ 1000) (hbase : base ≤ w.heap.size) :
    ∃ v' w', (Builtin.append_ #[t, u] ty #[v, .int .i64 (k : Int)]).run P w = .ok v' w' ∧ w'.ownsRow base e 1 v' (n + k) (xs ++ List.replicate k z) ∧ w.grownBy w' v.ownBlock ∧ (v'.ownBlock = v.ownBlock ∨ v'.ownBlock = some w.heap.size) := by
  by_cases hk0 : k = 0
  · subst hk0
    obtain ⟨p, c, rfl, hc⟩ := own_slice hown
    exact ⟨_, _, run_appz_zero w t u ty e i bytes ht hu hi hby p n c hc, by simpa using hown, World.grownBy.refl _ _, Or.inl rfl⟩
  have hlen : (xs ++ List.replicate k z).length = (n + k) * 1 := by rw [List.length_append, hown.1, List.length_replicate]; omega
  have hbytes : (n + k) * bytes ≤ 140737488355328 := Nat.le_trans (Nat.mul_le_mul (show n + k ≤ 2000000000 by omega) hb) (by decide)
  have grown : ∀ (old : Nat) (row : Option Nat),
      (w.drew.alloc (.cells (xs.toArray ++ (List.replicate k z).toArray ++ Builtin.zeroCells z.cells (grownCap w (n + k) old e - (n + k))) e)).ownsRow base e 1
        (.slice (some ⟨w.heap.size, 0, none⟩) (n + k) (grownCap w (n + k) old e)) (n + k) (xs ++ List.replicate k z) ∧
      w.grownBy (w.drew.alloc (.cells (xs.toArray ++ (List.replicate k z).toArray ++ Builtin.zeroCells z.cells (grownCap w (n + k) old e - (n + k))) e)) row := by
    intro old row
    have hge := grownCap_ge w (n + k) old e
    have hcm : grownCap w (n + k) old e ≤ maxLen := grownCap_le_maxLen w (n + k) old e (by unfold maxLen; omega)
    refine ⟨⟨hlen, .inr ⟨w.heap.size, _, _, rfl, hbase, heap_alloc_new w.drew _, hge, hcm, ?_, ?_⟩⟩, ⟨rfl, rfl, rfl, by simp, fun k hk _ => Below.heap_alloc w.drew _ k hk⟩⟩
    · have h1 := hown.1
      simp only [Array.size_append, List.size_toArray, size_zeroCells, hzc, List.length_replicate, List.length_cons, List.length_nil]
      omega
    · simp only [Array.toList_append, List.append_assoc]
      rw [← List.append_assoc, ← hlen]
      exact List.take_left
  rcases hown.2 with ⟨rfl, rfl⟩ | ⟨g, cap, cur, rfl, hbg, hg, hnc, hcm, hcs, htake⟩
  · have hx : xs = [] := List.eq_nil_of_length_eq_zero (by simpa using hown.1)
    subst hx
    have hr := run_appz_grow (P := P) w t u ty e i z bytes ht hu hi hz hsize hby hzc none 0 0 [] (run_firstCells_none w.drew 1 0 0 0) k hk (by omega) hn hb (by omega) (growslice_fits (by omega) hbytes)
    exact ⟨_, _, hr, (grown 0 none).1, (grown 0 _).2, Or.inr rfl⟩
  · by_cases hroom : n + k ≤ cap
    · have hr := run_appz_room (P := P) w t u ty e i z bytes ht hu hi hz hsize hby hzc hz1 g n cap cur hg k hk (by omega) hb hroom (by omega)
      refine ⟨_, _, hr, ⟨hlen, .inr ⟨g, cap, _, rfl, hbg, setRow_heap w g cur _ e _ hg, hroom, hcm, ?_, ?_⟩⟩, ⟨rfl, rfl, rfl, by simp, fun k _ hk => setRow_other w g k _ (fun e => hk (by simp [Value.ownBlock, e]))⟩, Or.inl rfl⟩
      · simp only [List.size_toArray, List.length_append, List.length_take, List.length_drop, Array.length_toList, List.length_replicate]
        omega
      · have ht' : cur.toList.take n = xs := by rw [← htake, Nat.mul_one]
        rw [ht', ← hlen]
        exact List.take_left
    · have hf := run_firstCells_some (P := P) w.drew 1 n ⟨g, 0, none⟩ n cap xs (by simpa using hown.1) (by simpa using hown.cells (g := g) rfl)
      have hr := run_appz_grow (P := P) w t u ty e i z bytes ht hu hi hz hsize hby hzc (some ⟨g, 0, none⟩) n cap xs hf k hk (by omega) hn hb hroom (growslice_fits (by omega) hbytes)
      exact ⟨_, _, hr, (grown cap none).1, (grown cap _).2, Or.inr rfl⟩

theorem wpList_appz {P : Program} (w : World) {ops : Array Oper} {rest : List Oper} {o : Oper} {a : Act} {Q : Exit → Act → World → Prop} (hgd : o.guard = none) (s x : Operand) (t u : TypeId)
    (ho : o.op = .call { callee := .builtin .append, args := #[s, x], argTypes := #[t, u] })
    (base : Nat) (e : TypeId) (z : Value) (bytes : Nat) (ht : P.underlying t = some (.slice e)) (hu : P.underlying u = some (.int .i64)) (hinfo : (P.info? e).map (fun i => (i.zero, i.size, i.bytes)) = some (some z, 1, bytes)) (hzc : z.cells = #[z]) (hz1 : z.oneCell' = true)
    (v : Value) (n : Nat) (xs : List Value) (hs : a.eval s = v) (hown : w.ownsRow base e 1 v n xs)
    (k : Nat) (hx : a.eval x = .int .i64 (k : Int)) (hk : k ≤ 1000000000) (hn : n ≤ 1000000000) (hb : bytes ≤ 1000) (hbase : base ≤ w.heap.size)
    (h : ∀ v' w', w'.ownsRow base e 1 v' (n + k) (xs ++ List.replicate k z) → w.grownBy w' v.ownBlock → (v'.ownBlock = v.ownBlock ∨ v'.ownBlock = some w.heap.size) → wpList P ops Q rest (a.put o.dst v') w') :
    wpList P ops Q (o :: rest) a w := by
  obtain ⟨i, hi, hz, hsize, hby⟩ := info_parts hinfo
  refine wpList_plain hgd fun K hK => ?_
  obtain ⟨v', w', hr, h2, h3, h4⟩ := run_appz (P := P) w base t u o.type e i z bytes ht hu hi hz hsize hby hzc hz1 v n xs hown k hk hn hb hbase
  unfold Oper.wp execOp
  simp only [ho, resolve, invoke, builtin, Sem.run_bind, Sem.run_pure, Result.andThen_ok, List.map_toArray, List.map_cons, List.map_nil, hs, hx, hr]
  exact hK _ _ (h v' w' h2 h3 h4)

theorem brk_cells {vs st : List Nat} {done : List Bool} (h : Sp.brackets vs = done ++ List.replicate st.length false) : Bo done ++ List.replicate st.length (Value.bool false) = Bo (Sp.brackets vs) := by
  rw [h, Bo_app]
  simp [Bo]
theorem brk_cells_len {vs st : List Nat} {done : List Bool} (h : Sp.brackets vs = done ++ List.replicate st.length false) : done.length + st.length = (Sp.brackets vs).length := by
  rw [h]
  simp

set_option maxHeartbeats 1000000 in
theorem brow_any (p : Option Addr) (B n c : Nat) (vs : List Nat) (w : World) (hr : Rd B w (.slice p n c) (U64 vs)) (hB : B ≤ w.heap.size) (hn : n ≤ 1000) :
    Calls Tryd.prog 22 #[.slice p n c] w fun e w' => ∃ v, e = .returned (.agg #[v]) ∧ w'.ownsRow w.heap.size 5 1 v (Sp.pack (Sp.brackets vs)).length (By (Sp.pack (Sp.brackets vs))) ∧ Below w.heap.size w w' := by
  obtain ⟨hl, hlc⟩ := hr.len
  rw [U64_len] at hl
  subst hl
  have HR := hide hr
  obtain ⟨i0, hi0, hz0, hz1, hz2⟩ := info_parts Ty.bool
  have HI := hide (And.intro hi0 (And.intro hz0 (And.intro hz1 hz2)))
  clear hz2 hi0 hz0 hz1 hr
  go_enter Tryd.func22, Tryd.ntmps22
  go_wp2_with (at_make; refine wpList_make_own _ rfl (.const (.int .i64 0)) (.tmp 9) 74 rfl (w.heap.size + 1) 4 i0 (.bool false) 1 Tryd.underlying74 (unhide HI).1 (unhide HI).2.1 (unhide HI).2.2.1 .i64 .i64 _ (2 * vs.length) rfl rfl (by go_num) (by rw [(unhide HI).2.2.2]; omega) (by unfold maxLen; omega) (by simp) ?_; intro w1 hown1 hg1)
  have hb1 : Below (w.heap.size + 1) (w.alloc (Obj.cells #[Value.slice none 0 0] 63)) w1 := (Below.refl _ _).grown hg1 (by simp) (by intro k hk; cases hk)
  have HW : Hid (ResCell w.heap.size w (w.alloc (Obj.cells #[Value.slice none 0 0] 63)) ∧ Rd B (w.alloc (Obj.cells #[Value.slice none 0 0] 63)) (.slice p vs.length c) (U64 vs)) :=
    ⟨⟨by simp, by simp, (Below.refl _ _).alloc (Nat.le_refl _) _, by simp⟩, (unhide HR).alloc hB _⟩
  generalize w.alloc (Obj.cells #[Value.slice none 0 0] 63) = W1 at *
  have hHs : w.heap.size + 1 ≤ W1.heap.size := Nat.le_of_eq (unhide HW).1.2.2.2.symm
  rw [(unhide HW).1.2.2.2] at hown1
  have HS : Hid (BrSt (w.heap.size + 1) W1 w1 vs B (.slice p vs.length c) [] [] 0 (.slice (some ⟨w.heap.size + 1, 0, none⟩) 0 (2 * vs.length)) (.slice none 0 0)) :=
    ⟨(unhide HW).2.below (hb1.mono (by omega)), hown1, World.ownsRow_nil _ _ _ _, Ap.nil _, rfl, rfl, hb1⟩
  have hBb : B ≤ w.heap.size + 1 := by omega
  clear hown1 hg1 hb1 HR
  go_loopw [3, 4, 13] (fun ou sk ii wr => ∃ (i : Nat) (done : List Bool) (st : List Nat), i ≤ vs.length ∧ ii = .int .i64 i ∧ BrSt (w.heap.size + 1) W1 wr vs B (.slice p vs.length c) done st i ou sk) (fun _ _ ii _ => vs.length - (intOf ii).toNat)
  case atStart => exact ⟨0, [], [], Nat.zero_le _, rfl, unhide HS⟩
  case round =>
    obtain ⟨i, done, st, hi, rfl, hst⟩ := hrel
    clear HS
    by_cases hlt : i < vs.length
    · obtain ⟨b, o, rfl, hb, hc⟩ := hst.rd.at i _ (U64_at vs i hlt)
      have HST := hide hst
      clear hst
      generalize hxx : vs[i] = x at *
      have HXX := hide hxx
      clear hxx
      go_wp2
      go_loopw [3, 4] (fun ou sk wr => ∃ (done : List Bool) (st : List Nat), BrSt (w.heap.size + 1) W1 wr vs B (.slice (some ⟨b, o, none⟩) vs.length c) done st i ou sk) (fun _ sk _ => lenV sk)
      case atStart => exact ⟨done, st, unhide HST⟩
      case round =>
        clear HST hc
        obtain ⟨done, st, hst⟩ := hrel
        have hsz := hst.sz
        have hsize := hst.bel.size
        have hsb : st.length ≤ 10000000000000 := by omega
        have hsd : done.length ≤ 10000000000000 := by omega
        by_cases hpop : ∃ t s, st = t :: s ∧ x < t
        · obtain ⟨t, s, rfl, hvt⟩ := hpop
          obtain ⟨g, cap, rfl, hcap, _, _, hcells, _⟩ := own_form hst.o2 (by simp)
          have hct := hcells s.length (.int .u64 (t : Int)) (by rw [List.reverse_cons, U64_app, List.getElem?_append_right (by rw [U64_len]; simp)]; simp [U64])
          rw [List.length_cons] at hst hcap hsz hsb ⊢
          have HST := hide hst
          have HV := hide hvt
          have hvt' : ((x : Nat) : Int) < (t : Int) := by omega
          clear hst hcells hvt
          go_wp2_with (at_builtin; refine wpList_app _ rfl (.tmp 35) (.tmp 36) 74 rfl (w.heap.size + 1) 4 (.bool false) 1 Tryd.underlying74 Ty.bool rfl u3 _ _ rfl ((unhide HST).o1.alloc _) _ _ rfl ⟨_, Rd.one wr (.bool false) 4⟩ (one_bool _) (room1 hsd) (room1b hsd) (by simp; omega) ?_; intro v1 w1 hown1 hg1 hb1; have R1 := BrSt.pop (unhide HST) hHs hBb hlt (by rw [unhide HXX]; exact unhide HV) hown1 hg1 hb1; have HR1 := hide R1; clear R1 hown1 hg1 hb1)
          go_roundw
          case rel => exact ⟨_, _, unhide HR1⟩
          case measure => simp [lenV]
        · have HNP : Hid (∀ t s, st = t :: s → ¬ x < t) := fun t s h1 h2 => hpop ⟨t, s, h1, h2⟩
          clear hpop
          cases st with
          | nil =>
            have hsk : u4 = .slice none 0 0 ∨ ∃ a c', u4 = .slice (some a) 0 c' := by
              rcases hst.o2.2 with ⟨h, _⟩ | ⟨g, cap, cur, h, _⟩
              · exact Or.inl h
              · exact Or.inr ⟨_, _, h⟩
            rcases hsk with rfl | ⟨a4, c4, rfl⟩
            all_goals
              have HST := hide hst
              clear hst
              go_wp2_with (first
                | (at_builtin; refine wpList_app _ rfl (.tmp 38) (.tmp 40) 35 rfl (w.heap.size + 1) 34 (.int .u64 0) 8 Tryd.underlying35 Ty.u64 rfl _ _ _ rfl ((unhide HST).o2.alloc _) _ _ rfl ⟨_, Rd.one wr (.int .u64 (x : Int)) 34⟩ (one_int _ _) (room1 hsb) (room8b hsb) (by simp; omega) ?_; intro v1 w1 hown1 hg1 hb1; have Q1 := app_own (unhide HST).o1 (unhide HST).ap hg1 hb1; have hs1 := (app_below (unhide HST).bel hHs (unhide HST).o2 hg1).2; have HQ1 := hide Q1; have HH1 := hide (And.intro hown1 (And.intro hg1 hb1)); clear Q1 hown1 hg1 hb1)
                | (at_builtin; refine wpList_app _ rfl (.tmp 42) (.tmp 43) 74 rfl (w.heap.size + 1) 4 (.bool false) 1 Tryd.underlying74 Ty.bool rfl _ _ _ rfl ((unhide HQ1).1.alloc _) _ _ rfl ⟨_, Rd.one w1 (.bool true) 4⟩ (one_bool _) (room1 hsd) (room1b hsd) (by simp; omega) ?_; intro v2 w2 hown2 hg2 hb2; have R1 := BrSt.push (unhide HST) hHs hBb hlt (fun t s h => by rw [unhide HXX]; exact HNP.out t s h) (by rw [unhide HXX]; exact (unhide HH1).1) (unhide HH1).2.1 (unhide HH1).2.2 hown2 hg2 hb2; have HR1 := hide R1; clear R1 hown2 hg2 hb2))
              go_roundw
              case rel => exact ⟨i + 1, _, _, by omega, by go_num, unhide HR1⟩
              case measure => simp [intOf]; omega
          | cons t s =>
            obtain ⟨g, cap, rfl, hcap, _, _, hcells, _⟩ := own_form hst.o2 (by simp)
            have hct := hcells s.length (.int .u64 (t : Int)) (by rw [List.reverse_cons, U64_app, List.getElem?_append_right (by rw [U64_len]; simp)]; simp [U64])
            have hnv := HNP.out t s rfl
            have hnv' : ¬ ((x : Nat) : Int) < (t : Int) := by omega
            rw [List.length_cons] at hst hcap hsz hsb ⊢
            have HST := hide hst
            clear hst hcells hnv
            go_wp2_with (first
              | (at_builtin; refine wpList_app _ rfl (.tmp 38) (.tmp 40) 35 rfl (w.heap.size + 1) 34 (.int .u64 0) 8 Tryd.underlying35 Ty.u64 rfl _ _ _ rfl ((unhide HST).o2.alloc _) _ _ rfl ⟨_, Rd.one wr (.int .u64 (x : Int)) 34⟩ (one_int _ _) (room1 hsb) (room8b hsb) (by simp; omega) ?_; intro v1 w1 hown1 hg1 hb1; have Q1 := app_own (unhide HST).o1 (unhide HST).ap hg1 hb1; have hs1 := (app_below (unhide HST).bel hHs (unhide HST).o2 hg1).2; have HQ1 := hide Q1; have HH1 := hide (And.intro hown1 (And.intro hg1 hb1)); clear Q1 hown1 hg1 hb1)
              | (at_builtin; refine wpList_app _ rfl (.tmp 42) (.tmp 43) 74 rfl (w.heap.size + 1) 4 (.bool false) 1 Tryd.underlying74 Ty.bool rfl _ _ _ rfl ((unhide HQ1).1.alloc _) _ _ rfl ⟨_, Rd.one w1 (.bool true) 4⟩ (one_bool _) (room1 hsd) (room1b hsd) (by simp; omega) ?_; intro v2 w2 hown2 hg2 hb2; have R1 := BrSt.push (unhide HST) hHs hBb hlt (fun t s h => by rw [unhide HXX]; exact HNP.out t s h) (by rw [unhide HXX]; exact (unhide HH1).1) (unhide HH1).2.1 (unhide HH1).2.2 hown2 hg2 hb2; have HR1 := hide R1; clear R1 hown2 hg2 hb2))
            go_roundw
            case rel => exact ⟨i + 1, _, _, by omega, by go_num, unhide HR1⟩
            case measure => simp [intOf]; omega
    · have he : i = vs.length := by omega
      subst he
      have hq := hst.eq
      rw [List.drop_length, brk_end] at hq
      have hsz := hst.sz
      have hsize := hst.bel.size
      obtain ⟨ps, cs, rfl, hcs⟩ := own_slice hst.o2
      have HQ := hide hq
      have hbl : (Sp.brackets vs).length ≤ 1000000 := by rw [hq]; simp; omega
      have HO := hide hst
      clear hst hq
      go_wp2_with (at_builtin; refine wpList_appz _ rfl (.tmp 46) (.tmp 48) 74 3 rfl (w.heap.size + 1) 4 (.bool false) 1 Tryd.underlying74 Tryd.underlying3 Ty.bool rfl rfl u3 _ _ rfl (unhide HO).o1 st.length rfl (by omega) (by omega) (by omega) (by omega) ?_; intro v1 w2 hown1 hg1 hb1; have R1 := (apps_below (unhide HO).bel hHs (unhide HO).o1 hg1).1; rw [brk_cells (unhide HQ), brk_cells_len (unhide HQ)] at hown1; have HR1 := hide (And.intro hown1 R1); clear R1 hown1 hg1 hb1)
      refine (rowOf_v (Rd.owned (unhide HR1).1) (Nat.le_refl _) (by omega)).mono ?_
      rintro e w4 ⟨v4, rfl, ho4, hb4⟩
      obtain ⟨p4, c4, rfl, _⟩ := own_slice ho4
      have HX := hide (ResCell.end (unhide HW).1 (unhide HR1).2 ho4 hb4)
      have hc4 := (unhide HX).1
      have hf4 := (unhide HX).2.1
      have hset := (unhide HX).2.2.1
      clear ho4 hb4
      go_wp2
      refine bodyPost_ret (v := .agg #[.slice p4 (Sp.pack (Sp.brackets vs)).length c4]) (by simp [results, Tryd.results22, go_sem, hset]) rfl ?_
      exact ⟨_, rfl, (unhide HX).2.2.2 _⟩
end Pr
end Go.Proofs.YtmefkcbchpjeoaaDoor
