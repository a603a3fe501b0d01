import Derived.Test.YtolkjadklbchfaaGreatDoorV4
import Derived.Test.YtolkjadklbchfaaGreatDoorL4
import Derived.Laws.IdiomStrings
/- Walks of the law: loaded. -/
open Go Go.RowKit
namespace Go.Proofs.YtolkjadklbchfaaGreatDoor
namespace Lw
open Mem Rf Pr Ld

/-- A string's bytes. -/
def bys (S : ByteArray) : List Nat := S.data.toList.map UInt8.toNat
theorem bys_len (S : ByteArray) : (bys S).length = S.size := by
  show (S.data.toList.map UInt8.toNat).length = S.data.size
  rw [List.length_map, Array.length_toList]
theorem bys_lt (S : ByteArray) : ∀ x ∈ bys S, x < 256 := by
  intro x hx
  obtain ⟨b, _, rfl⟩ := List.mem_map.1 hx
  exact b.toNat_lt
theorem str_bys (S : ByteArray) : str (bys S) = S := by
  apply Go.WideShapes.bytes_inj
  rw [str, strOfNums_data, bys, List.map_map, List.map_map]
  conv => rhs; rw [← List.map_id S.data.toList]
  apply List.map_congr_left
  intro x _
  simp
theorem By_bys (S : ByteArray) : By (bys S) = S.data.toList.map fun (b : UInt8) => Value.int .u8 (b.toNat : Int) := by simp [By, bys]

/-- copy(d, s), s a string that d has room for. -/
theorem run_copy_str {P : Program} (w : World) (dT sT ty elem : TypeId) (g dLen dCap : Nat) (S : ByteArray) (A B : List Value) (hu : P.underlying dT = some (.slice elem)) (hs : (P.info? elem).map (·.size) = some 1) (hg : Blk w g (A ++ B) elem) (hA : A.length = S.size) (hle : S.size ≤ dLen) :
    (Builtin.copy_ #[dT, sT] ty #[.slice (some ⟨g, 0, none⟩) dLen dCap, .string S]).run P w = .ok (goInt S.size) (w.setRow g (By (bys S) ++ B).toArray) := by
  have hbl : (By (bys S)).length = S.size := by rw [By_len, bys_len]
  have hst := run_storeCells_at P g 0 elem (By (bys S)) 0 (A ++ B).toArray w hg (by simp [hbl, hA]) (by
    intro v hv
    rw [By_bys] at hv
    obtain ⟨b, _, rfl⟩ := List.mem_map.1 hv
    rfl)
  have hmin : Nat.min S.size dLen = S.size := Nat.min_eq_left hle
  have htk : List.take S.size (List.map (fun b : UInt8 => Value.int IntKind.u8 (b.toNat : Int)) S.data.toList) = By (bys S) := by
    rw [← By_bys, List.take_of_length_le (by rw [hbl]; exact Nat.le_refl _)]
  have hrow : List.take (0 + 0) (A ++ B).toArray.toList ++ By (bys S) ++ List.drop (0 + 0 + (By (bys S)).length) (A ++ B).toArray.toList = By (bys S) ++ B := by
    rw [hbl, ← hA]
    simp
  rw [hrow] at hst
  cases hq : P.info? elem with
  | none => simp [hq] at hs
  | some i =>
    simp [Builtin.copy_, run_underlying hu, Builtin.lenOf, Builtin.firstCells, sizeOf, typeInfo, hq, hmin]
    rw [htk, hst]
    simp [Result.andThen]

theorem wpList_copy_str {P : Program} (w : World) {ops : Array Oper} {rest : List Oper} {o : Oper} {a : Act} {Q : Exit → Act → World → Prop} (hgd : o.guard = none) (d s : Operand) (dT sT : TypeId)
    (ho : o.op = .call { callee := .builtin .copy, args := #[d, s], argTypes := #[dT, sT] }) (elem : TypeId) (z : Value) (bytes : Nat) (hu : P.underlying dT = some (.slice elem)) (hinfo : (P.info? elem).map (fun i => (i.zero, i.size, i.bytes)) = some (some z, 1, bytes))
    (g dLen dCap : Nat) (A B : List Value) (hd : a.eval d = .slice (some ⟨g, 0, none⟩) dLen dCap) (hg : Blk w g (A ++ B) elem) (S : ByteArray) (hs : a.eval s = .string S) (hA : A.length = S.size) (hle : S.size ≤ dLen)
    (h : ∀ w', Blk w' g (By (bys S) ++ B) elem → w.grownBy w' (some g) → wpList P ops Q rest (a.put o.dst (goInt S.size)) w') : wpList P ops Q (o :: rest) a w := by
  obtain ⟨i, hi, _, hsize, _⟩ := info_parts hinfo
  have hsz : (P.info? elem).map (·.size) = some 1 := by rw [hi]; simp [hsize]
  refine wpList_plain hgd fun K hK => ?_
  have hrun := run_copy_str (P := P) w dT sT o.type elem g dLen dCap S A B hu hsz hg hA hle
  unfold Oper.wp
  simp [execOp, ho, resolve, invoke, builtin, hd, hs, hrun, Result.andThen]
  refine hK _ _ (h _ ?_ ?_)
  · unfold Blk
    rw [setRow_heap w g _ _ elem _ hg]
  · exact ⟨rfl, rfl, rfl, by simp [World.setRow], fun k _ hk => setRow_other w g k _ (fun e => hk (by rw [e]))⟩

/-- A string made bytes. -/
theorem conv_str {P : Program} (w : World) (src dst e : TypeId) (S : ByteArray) (hs : P.underlying src = some .string) (hd : P.underlying dst = some (.slice e)) (he : P.underlying e = some (.int .u8)) :
    ∃ (w' : World) (cap : Nat), (convert src dst (.string S)).run P w = .ok (.slice (some ⟨w.heap.size, 0, none⟩) S.size cap) w' ∧ Rd w'.heap.size w' (.slice (some ⟨w.heap.size, 0, none⟩) S.size cap) (By (bys S)) ∧ Below w.heap.size w w' := by
  refine ⟨_, _, run_bytes_of_string w src dst e S hs hd he, ?_, ?_⟩
  · refine ⟨_, _, by rw [By_len, bys_len], by rw [By_len, bys_len]; exact grownCap_ge _ _ _ _, .inr ⟨w.heap.size, 0, rfl, by show w.heap.size < (w.heap.push _).size; simp, ?_⟩⟩
    intro j u hu
    have hj : j < S.data.size := by
      have := (List.getElem?_eq_some_iff.1 hu).1
      rw [By_len, bys_len] at this
      exact this
    have hc := World.cell?_alloc_mark w.drew (bytesRow S (grownCap w S.size 0 e)) e ((bytesRow S (grownCap w S.size 0 e)).size, (bytesRow S (grownCap w S.size 0 e)).size + 1) j
    rw [Nat.zero_add]
    refine hc.trans ?_
    rw [bytesRow_at S _ j hj, ← hu, By_bys, List.getElem?_map, Array.getElem?_toList, Array.getElem?_eq_getElem hj]
    rfl
  · exact (Below.refl w.heap.size w).drew.alloc (Nat.le_refl _) _
/-- What loaded holds once Load has answered. -/
structure LSt (g n : Nat) (w w4 wr : World) : Prop where
  blk : ∃ cs : List Value, cs.length = n ∧ Blk wr g cs 5
  same : ∀ k, k ≠ g → wr.heap[k]? = w4.heap[k]?
  size : wr.heap.size = w4.heap.size
  bel : Below w.heap.size w wr
theorem LSt.put {g n : Nat} {w w4 wr : World} (h : LSt g n w w4 wr) (hg : w.heap.size ≤ g) (j : Nat) (v : Value) : LSt g n w w4 (wr.setCell ⟨g, j, none⟩ v) := by
  obtain ⟨cs, hl, hb⟩ := h.blk
  exact ⟨⟨cs.set j v, by simpa using hl, hb.put j v⟩, fun k hk => (Below.heap_setCell _ _ _ _ hk).trans (h.same k hk), (by simpa [World.setCell] using h.size), h.bel.setCell hg _⟩
theorem own_slice2 {w : World} {base : Nat} {e : TypeId} {v : Value} {n : Nat} {xs : List Value} (h : w.ownsRow base e 1 v n xs) {M : Nat → Prop} (hM : ∀ k, base ≤ k → ¬ M k) : RdM M w v xs :=
  ⟨Rd.owned h, fun _ k hk => hM k (h.lt k hk).1⟩

set_option maxHeartbeats 4000000 in
set_option maxRecDepth 100000 in
theorem loaded_any (base U : Nat) (W0 w : World) (xv yv bv : Value) (is : List It) (bs : List Bk) (h : WSt base U W0 w xv yv bv is bs) (S : ByteArray) (hS : S.size ≤ 140737488351232) (hT : Tab w) (hU : Bru w) :
    Calls Tryz.prog 14 #[.pointer (some ⟨U, 0, none⟩), .string S] w fun e w' => e = .returned (.bool true) ∧ ∃ xv' yv' is', WSt base U W0 w' xv' yv' bv is' bs := by
  have HH := hide h
  have HT := hide hT
  have HU := hide hU
  obtain ⟨i0, hi0, hz0, hz1, hz2⟩ := info_parts Ty.u8
  have HI := hide (And.intro hi0 (And.intro hz0 (And.intro hz1 hz2)))
  clear h hT hU hi0 hz0 hz1 hz2
  go_enter Tryz.func14, Tryz.ntmps14
  go_wp2_with (first
    | (at_make; refine wpList_make_full _ rfl (.tmp 16) (.tmp 16) 49 rfl w.heap.size 5 i0 (.int .u8 0) 1 Tryz.underlying49 (unhide HI).1 (unhide HI).2.1 (unhide HI).2.2.1 .i64 .i64 _ _ (S.size + 2) rfl rfl (by go_num) (by go_num) (by rw [(unhide HI).2.2.2]; omega) (by unfold maxLen; omega) (Nat.le_refl _) ?_; intro w1 ho1 hg1; have hB1 := made_blk ho1; rw [made_u8s] at hB1; have hB1' : Blk w1 w.heap.size (List.replicate S.size (Value.int .u8 0) ++ [.int .u8 0, .int .u8 0]) 5 := by { rw [← rep2]; simpa [By] using hB1 }; have HG1 := hide (And.intro hg1 hB1'); clear ho1 hg1 hB1 hB1')
    | (refine wpList_copy_str _ rfl (.tmp 18) (.tmp 19) 49 9 rfl 5 (.int .u8 0) 1 Tryz.underlying49 Ty.u8 w.heap.size _ _ (List.replicate S.size (.int .u8 0)) [.int .u8 0, .int .u8 0] rfl (unhide HG1).2 S rfl (by simp) (by omega) ?_; intro w2 hB2 hg2; have e1 := hB2.cell S.size (.int .u8 0) (at_end (by rw [By_len, bys_len])); have f1 := hB2.fz S.size; have hB3 := hB2.put S.size (.int .u8 77); rw [set_end (by rw [By_len, bys_len])] at hB3; have HG2 := hide (And.intro hg2 (And.intro hB2 hB3)); clear hB2 hg2 hB3))
  have hb3 : Below w.heap.size w (w2.setCell ⟨w.heap.size, S.size, none⟩ (.int .u8 77)) := (((Below.refl _ _).grown (unhide HG1).1 (Nat.le_refl _) (by intro k hk; cases hk)).grown (unhide HG2).1 (unhide HG1).1.size (by intro k hk; simp at hk; omega)).setCell (Nat.le_refl _) _
  have hB3 := (unhide HG2).2.2
  generalize w2.setCell ⟨w.heap.size, S.size, none⟩ (.int .u8 77) = w3 at *
  clear e1 f1 HG1 HG2 HI
  have hg3 := hB3.lt
  have HB3 := hide (And.intro hb3 hB3)
  have HLD := hide (load_any w3.heap.size (some ⟨w.heap.size, 0, none⟩) S.size (S.size + 2) (bys S) w3 (hB3.rd (by rw [By_len, bys_len]) (by omega)) (Nat.le_refl _) (bys_lt S) (by omega) ((unhide HT).below hb3 (unhide HT).1) ((unhide HU).below hb3 (unhide HU).1))
  clear hb3 hB3
  refine (unhide HLD).mono ?_
  rintro e w4 ⟨pv, f, rfl, hres, hb4⟩
  have hB4 := (unhide HB3).2.below hb4 hg3
  have x1 := hB4.cell S.size (.int .u8 77) (at_end (by rw [By_len, bys_len]))
  have x2 := hB4.cell (S.size + 1) (.int .u8 0) (at_end2 (by rw [By_len, bys_len]))
  have hcv := conv_rd (P := Tryz.prog) w4 49 5 9 (hB4.rd (n := S.size) (cap := S.size + 2) (by rw [By_len, bys_len]) (by omega)) Tryz.underlying49 Tryz.underlying5 Tryz.underlying9
  rw [str_bys] at hcv
  have HL0 : Hid (LSt w.heap.size (S.size + 2) w w4 w4) := ⟨⟨_, by simp [By_len, bys_len], hB4⟩, fun _ _ => rfl, rfl, bel_trans (unhide HB3).1 hb4⟩
  have HRES := hide hres
  have hs4 := hb4.size
  clear hB4 hres hb4 HLD
  go_wp2_with fail
  clear x1 x2 hcv
  go_loopw [9] (fun ii wr => ∃ k : Nat, k ≤ S.size + 2 ∧ ii = .int .i64 (k : Nat) ∧ LSt w.heap.size (S.size + 2) w w4 wr) (fun ii _ => S.size + 2 - (intOf ii).toNat)
  case atStart => exact ⟨0, Nat.zero_le _, rfl, unhide HL0⟩
  case round =>
    obtain ⟨k, hk, rfl, hst⟩ := hrel
    clear HL0
    by_cases hlt : k < S.size + 2
    · obtain ⟨cs, hcl, hbk⟩ := hst.blk
      have hck := hbk.cell k cs[k] (by simp [hcl, hlt])
      have hfk := hbk.fz k
      have HST := hide hst
      clear hst hbk
      generalize cs[k]'(by omega) = old at *
      clear hcl
      go_wp2
      go_roundw
      case rel => exact ⟨k + 1, by omega, by go_num, (unhide HST).put (Nat.le_refl _) k _⟩
      case measure => simp [intOf]; omega
    · have he : k = S.size + 2 := by omega
      subst he
      have HST := hide hst
      obtain ⟨w6, cap, hcv, hrd, hb6⟩ := conv_str (P := Tryz.prog) wr 9 49 5 S Tryz.underlying9 Tryz.underlying49 Tryz.underlying5
      have HRL := hide (rload_any w6.heap.size (some ⟨wr.heap.size, 0, none⟩) S.size cap (bys S) w6 hrd (Nat.le_refl _) (bys_lt S) (by omega))
      have HB6 := hide hb6
      clear hst hrd hb6
      go_wp2_with fail
      refine (unhide HRL).mono ?_
      rintro e w7 ⟨pv7, nv7, cv7, pm7, nm7, cm7, f7, rfl, hres7, hb7⟩
      have hb67 := bel_trans (unhide HB6) hb7
      have hW7 : WSt base U W0 w7 xv yv bv is bs := (unhide HH).below (bel_trans (unhide HST).bel hb67)
      have hul := (unhide HH).ult
      have hMut : ∀ k, w.heap.size ≤ k → ¬ Mut U xv yv bv k := by
        intro k a hm
        rcases hm with q | q | q | q
        · omega
        · have := ((unhide HH).ox.lt k q).2; omega
        · have := ((unhide HH).oy.lt k q).2; omega
        · have := ((unhide HH).ob.lt k q).2; omega
      have hws := (unhide HB3).1.size
      have hsw := (unhide HST).size
      have hws6 := (unhide HB6).size
      have hwsr := (unhide HST).bel.size
      -- the answers are the same
      have hsame : ((f : Int) == 0) = false ∧ pv = none ∧ f7 = f ∨ f = 0 ∧ f7 = 0 ∧ ∃ X vs ms, pv = some ⟨X, 0, none⟩ ∧ ItOk (Mut U xv yv bv) w7 ⟨X, .slice pv7 nv7 cv7, .slice pm7 nm7 cm7, vs, ms⟩ := by
        have nz : ∀ q : Nat, q ≠ 0 → ((q : Int) == 0) = false := fun q hq => by rw [beq_eq_false_iff_ne]; omega
        rcases unhide HRES with ⟨r1, r2, r3⟩ | ⟨r1, r2, r3, r4⟩ | ⟨r1, r2, r3, r4, r5⟩ | ⟨X, vs, ms, r1, r2, r3, r4, r5⟩
        · rcases hres7 with ⟨s1, s2⟩ | ⟨s1, _⟩ | ⟨s1, _⟩ | ⟨vs', ms', s1, s2, s3, _⟩
          · exact .inl ⟨by rw [r2]; exact nz _ r3, r1, by rw [s1, r2]⟩
          · exact absurd s1 r3
          · exact absurd s1 r3
          · exact absurd (by rw [← s3]; exact (enc_head s2).1) r3
        · rcases hres7 with ⟨s1, s2⟩ | ⟨s1, s2, s3⟩ | ⟨s1, s2, _⟩ | ⟨vs', ms', s1, s2, s3, _⟩
          · exact absurd r2 s2
          · exact .inl ⟨by rw [r3]; exact nz _ r4, r1, by rw [s2, r3]⟩
          · exact absurd s2 r4
          · exact absurd (by rw [← s3]; exact enc_body s2) r4
        · rcases hres7 with ⟨s1, s2⟩ | ⟨s1, s2, s3⟩ | ⟨s1, s2, s3, _⟩ | ⟨vs', ms', s1, s2, s3, _⟩
          · exact absurd r2 s2
          · exact absurd r3 s3
          · exact .inl ⟨by rw [r4]; rfl, r1, by rw [s3, r4]⟩
          · exact absurd s3 (r5 _ _ s2)
        · rcases hres7 with ⟨s1, s2⟩ | ⟨s1, s2, s3⟩ | ⟨s1, s2, s3, s4⟩ | ⟨vs', ms', s1, s2, s3, s4, s5⟩
          · exact absurd (by rw [← r4]; exact (enc_head r3).1) s2
          · exact absurd (by rw [← r4]; exact enc_body r3) s3
          · exact absurd r4 (s4 _ _ r3)
          · obtain ⟨rfl, rfl⟩ := enc_inj r3 s2 (r4.trans s3.symm)
            refine .inr ⟨r2, s1, X, vs, ms, r1, ⟨w3.heap.size, w4.heap.size, ?_, ?_, fun k a _ => hMut k (by omega)⟩, r3, own_slice2 s4 (fun k a => hMut k (by omega)), own_slice2 s5 (fun k a => hMut k (by omega))⟩
            · refine Idx.same r5 (fun k a b => ?_)
              rw [hb67.block k (by omega), (unhide HST).same k (by omega)]
            · have := hb67.size
              show w4.heap.size ≤ w7.heap.size
              omega
      have HW7 := hide hW7
      clear hW7 hMut hres7 hb7 hb67 HRL HST HRES HB6 HB3
      rcases hsame with ⟨hf0, rfl, rfl⟩ | ⟨rfl, rfl, X, vs, ms, rfl, hit⟩
      · have HMD := hide (made_err U (.slice pv7 nv7 cv7) (.slice pm7 nm7 cm7) (f7 : Int) w7 hf0)
        clear hf0
        go_wp2_with fail
        refine at_same (unhide HMD) ?_
        go_wp2
        go_ret
        exact ⟨rfl, xv, yv, is, unhide HW7⟩
      · have HMD := hide (made_ok base U W0 _ xv yv bv is bs _ (unhide HW7) hit)
        clear hit
        go_wp2_with fail
        refine (unhide HMD).mono ?_
        rintro e w8 ⟨rfl, xv', yv', is', hfin⟩
        have HFIN := hide hfin
        clear hfin
        go_wp2
        go_ret
        exact ⟨rfl, xv', yv', is', unhide HFIN⟩
end Lw
end Go.Proofs.YtolkjadklbchfaaGreatDoor
