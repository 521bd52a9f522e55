/- Contracts of package join: refusal of treaps in a row where there is room; All. -/
import Derived.Test.YtellkcppgfghhaaJnK
import Derived.Deep.RegionHeld3
namespace Go.Proofs.Ytellkcppgfghhaa
open Go.RowKit
set_option linter.all false

/-- How many records treaps in a row take at most, when so many pairs are ahead of them. -/
def cost : Nat → List (List Pr) → Nat
  | _, [] => 0
  | s, l :: ls => (if l = [] then 0 else s + l.length) + cost (s + l.length) ls
theorem cost_le (ls : List (List Pr)) : ∀ s, cost s ls ≤ ls.length * (s + ls.flatten.length) := by
  induction ls with
  | nil => intro s; exact Nat.zero_le _
  | cons l ls ih =>
    intro s
    have h := ih (s + l.length)
    simp only [cost, List.flatten_cons, List.length_append, List.length_cons]
    have h1 : (if l = [] then 0 else s + l.length) ≤ s + (l.length + ls.flatten.length) := by split <;> omega
    have e : s + l.length + ls.flatten.length = s + (l.length + ls.flatten.length) := by omega
    rw [e] at h
    rw [Nat.succ_mul]
    omega

theorem Tree.pos' {L : List It} {t : Int} {l : List Pr} (T : Tree L t l) (h : l ≠ []) : t ≠ 0 := by
  rcases T.parts with ⟨_, e⟩ | ⟨i, q, x, y, h1, h2, h3, h4, h5, h6, h7, _⟩
  · exact absurd e h
  · omega

theorem Nums.own {w : World} {S : Nat → Prop} {v : Value} {l : List Int} (h : Nums w S v l) : Nums w (fun j => j < w.heap.size ∧ v.ownBlock ≠ some j) v l := ⟨h.row, fun k hk hs => hs.2 hk⟩

section
variable {w W W' : World} {g : Nat} {x : Int}
theorem rf_new (hc : w.cell? ⟨g, 0, none⟩ = some (.int .i64 x)) (hW : W = w.drew) : W.cell? ⟨g, 0, none⟩ = some (.int .i64 x) ∧ Below w.heap.size w W := by
  have hb : Below w.heap.size w w.drew := (Below.refl _ _).drew
  subst hW
  exact ⟨(hb.cell (p := ⟨g, 0, none⟩) (World.block_lt_of_cell? w _ hc)).trans hc, hb⟩
theorem rf_keep (hb : Below W.heap.size W W') (H : W.cell? ⟨g, 0, none⟩ = some (.int .i64 x) ∧ Below w.heap.size w W) : W'.cell? ⟨g, 0, none⟩ = some (.int .i64 x) ∧ Below w.heap.size w W' :=
  ⟨(hb.cell (p := ⟨g, 0, none⟩) (World.block_lt_of_cell? W _ H.1)).trans H.1, H.2.trans (hb.mono H.2.size)⟩
theorem rf_below (H : W.cell? ⟨g, 0, none⟩ = some (.int .i64 x) ∧ Below w.heap.size w W) : Below w.heap.size w W := H.2
end

theorem take_flat_le (ls : List (List Pr)) (i : Nat) : ((ls.take i).flatten).length ≤ ls.flatten.length := by
  conv => rhs; rw [← List.take_append_drop i ls]
  rw [List.flatten_append, List.length_append]
  omega

theorem src_same {w : World} {S : Nat → Prop} {a : Option Addr} {n cap : Nat} {l : List Int} (h : Nums w S (.slice a n cap) l) (hn : n = l.length) : Source w (.slice a n cap) l.length (cellsI l) := by
  rcases h.row.2 with ⟨e, e0⟩ | ⟨g, cap', cur, e, _⟩
  · cases e
    obtain rfl : l = [] := List.length_eq_zero_iff.1 e0
    exact src_I0
  · simp only [Value.slice.injEq] at e
    obtain ⟨rfl, _, rfl⟩ := e
    exact src_nums h hn hn (fun e => by cases e)

/-- What the loop of refusal keeps. -/
structure RefS (w : World) (L : List It) (ls : List (List Pr)) (wr : World) (r x : Int) (a : Option Addr) (n c i : Nat) (A : List Pr) (f : List Int) : Prop where
  TA : Tree L x A
  la : A.length ≤ 500
  srt : Srt (A ++ (ls.drop i).flatten)
  row : Nums wr (fun j => j < w.heap.size) (.slice a n c) f
  hn : n = f.length
  hc : n ≤ c
  hm : c ≤ maxLen
  fl : f.length ≤ ((ls.take i).flatten).length
  r0 : (cost ((ls.take i).flatten.length) (ls.drop i) : Int) ≤ r
  r1 : r ≤ 60000
  o : Below w.heap.size w wr

theorem RefS.step {w wr w' : World} {L : List It} {ls : List (List Pr)} {r x t : Int} {a : Option Addr} {n c i : Nat} {A B : List Pr} {f : List Int} (h : RefS w L ls wr r x a n c i A f) (hB : ls[i]? = some B) (hl : ls.flatten.length ≤ 500) (TB : Tree L t B) (hne : B ≠ [])
    {a' : Option Addr} {n' c' : Nat} {f' : List Int} {cc : Nat} (hcc : cc ≤ f.length + B.length) (row : Nums w' (fun j => j < w.heap.size) (.slice a' n' c') f') (hn : n' = f'.length) (hc : n' ≤ c') (hm : c' ≤ maxLen) (hf : f'.length ≤ f.length + B.length) (o : Below w.heap.size w w') :
    RefS w L ls w' (r - cc) t a' n' c' (i + 1) B f' := by
  have hd : ls.drop i = B :: ls.drop (i + 1) := by
    rw [List.drop_eq_getElem_cons (List.getElem?_eq_some_iff.1 hB).1]
    rw [(List.getElem?_eq_some_iff.1 hB).2]
  have ht : (ls.take (i + 1)).flatten = (ls.take i).flatten ++ B := by
    rw [List.take_succ, hB]
    simp
  have hs := h.srt
  rw [hd, List.flatten_cons] at hs
  have h2 := hs.two.2.1
  have hr := h.r0
  rw [hd] at hr
  simp only [cost, if_neg hne] at hr
  have hfl := h.fl
  have hlen : B.length ≤ ls.flatten.length := by
    have := List.take_append_drop i ls
    have e : ls.flatten.length = (ls.take i).flatten.length + (ls.drop i).flatten.length := by
      conv => lhs; rw [← this]
      rw [List.flatten_append, List.length_append]
    rw [e, hd, List.flatten_cons, List.length_append]
    omega
  refine ⟨TB, by omega, h2, row, hn, hc, hm, by rw [ht, List.length_append]; omega, ?_, by have := h.r1; omega, o⟩
  rw [ht, List.length_append]
  omega
theorem RefS.skip {w wr w' : World} {L : List It} {ls : List (List Pr)} {r x : Int} {a : Option Addr} {n c i : Nat} {A : List Pr} {f : List Int} (h : RefS w L ls wr r x a n c i A f) (hB : ls[i]? = some []) (hb : Below wr.heap.size wr w') : RefS w L ls w' r x a n c (i + 1) A f := by
  have hd : ls.drop i = [] :: ls.drop (i + 1) := by
    rw [List.drop_eq_getElem_cons (List.getElem?_eq_some_iff.1 hB).1]
    rw [(List.getElem?_eq_some_iff.1 hB).2]
  have ht : (ls.take (i + 1)).flatten = (ls.take i).flatten := by
    rw [List.take_succ, hB]
    simp
  have hs := h.srt
  have hr := h.r0
  rw [hd, List.flatten_cons, List.nil_append] at hs
  rw [hd] at hr
  simp only [cost, if_true, List.length_nil, Nat.add_zero, Nat.zero_add] at hr
  have hfl := h.fl
  exact ⟨h.TA, h.la, hs, h.row.below hb, h.hn, h.hc, h.hm, by rw [ht]; exact hfl, by rw [ht]; exact hr, h.r1, h.o.trans (hb.mono h.o.size)⟩
theorem RefS.meet {w wr : World} {L : List It} {ls : List (List Pr)} {r x : Int} {a : Option Addr} {n c i : Nat} {A B : List Pr} {f : List Int} (h : RefS w L ls wr r x a n c i A f) (hB : ls[i]? = some B) : Srt (A ++ B) ∧ B.length ≤ ls.flatten.length := by
  have hd : ls.drop i = B :: ls.drop (i + 1) := by
    rw [List.drop_eq_getElem_cons (List.getElem?_eq_some_iff.1 hB).1]
    rw [(List.getElem?_eq_some_iff.1 hB).2]
  have hs := h.srt
  rw [hd, List.flatten_cons, ← List.append_assoc] at hs
  have hlen : B.length ≤ ls.flatten.length := by
    have := List.take_append_drop i ls
    have e : ls.flatten.length = (ls.take i).flatten.length + (ls.drop i).flatten.length := by
      conv => lhs; rw [← this]
      rw [List.flatten_append, List.length_append]
    rw [e, hd, List.flatten_cons, List.length_append]
    omega
  exact ⟨hs.two.1, hlen⟩

section
variable {w : World} {p : Nat} {F : Nat → Prop} {room st : Int} {L : List It}
set_option maxRecDepth 100000 in
set_option maxHeartbeats 12800000 in
theorem ref_ok {S0 : Nat → Prop} {ao : Option Addr} {n cap : Nat} {ts : List Int} {ls : List (List Pr)} (hA : Arena w p F room st L) (hts : Nums w S0 (.slice ao n cap) ts) (hn : n = ts.length) (hcap : n ≤ cap) (hlen : ts.length = ls.length)
    (hT : ∀ (i : Nat) (t : Int) (l : List Pr), ts[i]? = some t → ls[i]? = some l → Tree L t l) (hs : Srt ls.flatten) (hl : ls.flatten.length ≤ 500) (hroom : ((L.length + cost 0 ls : Nat) : Int) ≤ room) :
    Calls Try.prog 45 #[.pointer (some ⟨p, 0, none⟩), .slice ao n cap] w fun e w' => e = .returned (.int .i64 0) ∧ Below w.heap.size w w' := by
  have hok := hA.ok.2
  have hcapm : cap ≤ maxLen := by
    obtain ⟨_, _, e, _, h⟩ := hts.form
    simp only [Value.slice.injEq] at e
    omega
  unfold maxLen at hcapm
  have HA := Lib.hid hA
  have HTS := Lib.hid hts
  have HN := Lib.hid (hn.trans hlen)
  have HN0 := Lib.hid hn
  have HT := Lib.hid hT
  have HS := Lib.hid hs
  have HL := Lib.hid hl
  have HR := Lib.hid (show (cost 0 ls : Int) ≤ room - L.length by omega)
  have HR1 := Lib.hid (show room - L.length ≤ 60000 by omega)
  obtain ⟨r0, hr0⟩ : ∃ r0, room - (L.length : Int) = r0 := ⟨_, rfl⟩
  have cr := room_any w p F room st L hA
  rw [hr0] at HR HR1 cr
  clear hA hts hn hlen hT hs hl hroom hok hr0
  go_enter Try.func45, Try.ntmps45
  go_wp2_with (go_at_call 55; ((with_reducible refine cr.mono ?_); clear cr; rintro e w1 ⟨rfl, nq, rfl⟩))
  go_loopw [5, 6, 7, 17] (fun rv lv fv iv wr => ∃ (r x : Int) (a : Option Addr) (m c i : Nat) (A : List Pr) (f : List Int), rv = .int .i64 r ∧ lv = .int .i64 x ∧ fv = .slice a m c ∧ iv = .int .i64 i ∧ i ≤ n ∧ RefS w L ls wr r x a m c i A f) (fun _ _ _ iv _ => n - (intOf iv).toNat)
  case atStart =>
    exact ⟨r0, 0, none, 0, 0, 0, [], [], rfl, rfl, rfl, rfl, Nat.zero_le _, .nil, by simp, by simpa using HS.out, Nums.nil _ _, rfl, Nat.le_refl _, Nat.zero_le _, by simp, by simpa using HR.out, HR1.out, below_drewN (Below.refl _ _) _⟩
  case round =>
    obtain ⟨r, x, a, m, c, i, A, f, rfl, rfl, rfl, rfl, hi, hR⟩ := hrel
    clear HR HR1
    by_cases hlt : i < n
    · obtain ⟨t, ht⟩ : ∃ t, ts[i]? = some t := ⟨_, List.getElem?_eq_getElem (by have := HN0.out; omega)⟩
      obtain ⟨B, hB⟩ : ∃ B, ls[i]? = some B := ⟨_, List.getElem?_eq_getElem (by have := HN.out; omega)⟩
      have TB := HT.out i t B ht hB
      obtain ⟨hsAB, hlB⟩ := hR.meet hB
      have hAr := HA.out.below hR.o
      have ct := fun (W : World) (hb : Below wr.heap.size wr W) => tree_is (hAr.below hb) TB (by have := HL.out; omega)
      have cm := fun (W : World) (hb : Below wr.heap.size wr W) => meet_tree (hAr.below hb) hR.TA TB
      rw [meet_no hsAB] at cm
      obtain ⟨gt, rfl, _, dt⟩ := (HTS.out.below hR.o).at ht
      have hi0 : (0 : Int) ≤ (i : Int) := by omega
      have hi1 : (i : Int) < (n : Int) := by omega
      have HLT := Lib.hid hlt
      have hcapI : (n : Int) ≤ (cap : Int) := by omega
      by_cases hne : B = []
      · subst hne
        have ht0 : t = 0 := TB.nil_zero
        subst ht0
        have HRS := Lib.hid hR
        have HB := Lib.hid hB
        clear hR hB TB hsAB hlB hAr ht
        go_wp2_with (first
          | (go_at_call 35; ((with_reducible refine (ct _ (Below.refl _ _)).mono ?_); clear ct; rintro e w2 ⟨rfl, hb2⟩))
          | (go_at_call 41; ((with_reducible refine (cm _ hb2).mono ?_); clear cm; rintro e w3 ⟨rfl, hb3⟩; have hb4 := hb2.trans (hb3.mono hb2.size); clear hb2 hb3)))
        go_roundw
        case rel => exact ⟨r, x, a, m, c, i + 1, A, f, rfl, rfl, rfl, by go_num, by have := HLT.out; omega, HRS.out.skip HB.out hb4⟩
        case measure => have := HLT.out; simp [intOf]; omega
      · have htn : (t == 0) = false := by simpa using TB.pos' hne
        have sB : Srt B := hsAB.two.2.1
        have lB : B.length ≤ 1000 := by have := HL.out; omega
        have ck := fun (W : World) (hb : Below wr.heap.size wr W) => keysL_any (hAr.below hb) TB sB lB
        have hhB := hi_le _ B (Nat.le_refl _)
        have HRS := Lib.hid hR
        have HB := Lib.hid hB
        have HNE := Lib.hid hne
        have HHB := Lib.hid hhB
        have HAR := Lib.hid hAr
        have HTB := Lib.hid TB
        have HSB := Lib.hid sB
        have HLB := Lib.hid lB
        have hX : f.length ≤ 500 ∧ m ≤ c := by
          refine ⟨?_, hR.hc⟩
          have h1 := hR.fl
          have h2 := HL.out
          have h3 := take_flat_le ls i
          omega
        have HX := Lib.hid hX
        clear hX
        have hmc := hR.hc
        have hmx := hR.hm
        have hr1 := hR.r1
        have hr0 : (f.length : Int) + B.length ≤ r := by
          have h1 := hR.r0
          have h2 := hR.fl
          rw [List.drop_eq_getElem_cons (List.getElem?_eq_some_iff.1 hB).1, (List.getElem?_eq_some_iff.1 hB).2] at h1
          simp only [cost, if_neg hne] at h1
          omega
        unfold maxLen at hmx
        clear hR hB hne TB hsAB hlB hAr ht sB lB hhB
        go_wp2_with (first
          | (go_at_call 35; ((with_reducible refine (ct _ (Below.refl _ _)).mono ?_); clear ct; rintro e w2 ⟨rfl, hb2⟩))
          | (go_at_call 41; ((with_reducible refine (cm _ hb2).mono ?_); clear cm; rintro e w3 ⟨rfl, hb3⟩; have hb4 := hb2.trans (hb3.mono hb2.size); clear hb2 hb3))
          | (go_at_call 59; ((with_reducible refine (ck _ hb4).mono ?_); clear ck; rintro e w4 ⟨ag, cg, g, rfl, hG, hg1, hg2, hg3, hg4, hb5⟩; have HG := Lib.hid hG; have HG3 := Lib.hid hg3; have HG4 := Lib.hid hg4; have B4 := Lib.hid (hb4.trans (hb5.mono hb4.size)); clear hG hg3 hg4 hb4 hb5))
          | (go_at_call 61; ((with_reducible refine (copied_any (HRS.out.row.below B4.out) HG.out HRS.out.hn rfl hmc hg1 (by have h1 := HX.out.1; have h2 := HG3.out; have h3 := HHB.out; have h4 := HLB.out; omega)).mono ?_); rintro e w5 ⟨⟨cc, hcc, rfl⟩, hb6⟩; have hcr : (0 : Int) ≤ r - cc := (by have h2 := HG3.out; have h3 := HHB.out; omega); have hcr1 : (0 : Int) ≤ (cc : Int) := (by omega); have B5 := Lib.hid (B4.out.trans (hb6.mono B4.out.size)); have HCC := Lib.hid (show cc ≤ f.length + B.length by have h2 := HG3.out; have h3 := HHB.out; omega); have HG5 := Lib.hid (HG.out.below hb6); clear HG hb6 hcc)))
        obtain ⟨x0, hx0⟩ : ∃ x0, g[0]? = some x0 := ⟨_, List.getElem?_eq_getElem (List.length_pos_iff.2 (HG4.out HNE.out))⟩
        obtain ⟨gg, rfl, _, dg⟩ := HG5.out.at hx0
        have hgl : (0 : Int) < (g.length : Int) := by have := (List.getElem?_eq_some_iff.1 hx0).1; omega
        have R5 := Lib.hid (HRS.out.row.below B5.out)
        have O5 := Lib.hid R5.out.own
        have DG := Lib.hid dg
        clear hx0
        have hgl2 : 0 < g.length := by omega
        have BD := Lib.hid (show Below w5.heap.size w5 w5.drew from (Below.refl _ _).drew)
        have dgD := (BD.out.cell (p := ⟨gg, 0, none⟩) (World.block_lt_of_cell? w5 _ dg)).trans dg
        clear dg
        go_region_law (first
          | (go_simp; go_at_call 62; ((with_reducible refine (upTo_any x0 (R5.out.below BD.out) HRS.out.hn hmc (by have h1 := HX.out.1; omega)).mono ?_); rintro e w6 ⟨⟨u, hu, rfl⟩, rfl⟩; have hu0 : (0 : Int) ≤ (u : Int) := (by omega); have hu1 : (u : Int) ≤ (c : Int) := (by have := HRS.out.hn; omega); have hu2 : u ≤ c := (by omega); have HU := Lib.hid hu; clear hu))
          | (go_simp; go_at_call 59; ((with_reducible refine (keysR_any (HAR.out.below (B5.out.trans (BD.out.mono B5.out.size))) HTB.out HSB.out HLB.out).mono ?_); rintro e w7 ⟨ah, ch, h, rfl, hH, hh1, hh2, hh3, hh4, hb⟩; have HH := Lib.hid hH; have HH3 := Lib.hid hh3; have B7 := Lib.hid (BD.out.trans (hb.mono BD.out.size)); clear hH hh3 hh4 hb))
          | (refine step_nums rfl (.tmp 49) (.tmp 52) rfl (fun j => j < w5.heap.size ∧ (Value.slice a m c).ownBlock ≠ some j) (.slice a u c) (f.take u) h rfl ((O5.out.take HU.out).below B7.out) (fun k hk => Nat.lt_of_lt_of_le hk.1 B7.out.size) (.slice ah h.length ch) rfl (src_same HH.out rfl) (by have h1 := HX.out.1; have h3 := HH3.out; have h4 := HHB.out; have h5 := HLB.out; rw [List.length_take]; omega) (u + h.length) (by have h5 := HU.out; rw [List.length_take]; omega) _ rfl ?_; intro ao2 cp2 w8 hm2 hc2 hR2 hO2; have R8 := Lib.hid hR2; have O8 := Lib.hid hO2; clear hR2 hO2))
        all_goals
          go_wp2_with (fail)
          go_roundw
          case rel =>
            have hb8 : Below w.heap.size w w8 := by
              have h1 := (HRS.out.o.trans (B5.out.mono HRS.out.o.size))
              have h2 := h1.trans (B7.out.mono h1.size)
              exact h2.trans (O8.out.below (fun k hk => Nat.le_of_not_lt fun hlt => hk ⟨Nat.lt_of_lt_of_le hlt h1.size, fun e => R5.out.av k e hlt⟩) h2.size)
            exact ⟨_, t, ao2, _, cp2, i + 1, B, _, by first | rfl | go_num, rfl, rfl, by go_num, by have := HLT.out; omega,
              HRS.out.step HB.out HL.out HTB.out HNE.out HCC.out (R8.out.sub (fun k hk hlt => ⟨Nat.lt_of_lt_of_le hlt (HRS.out.o.trans (B5.out.mono HRS.out.o.size)).size, fun e => R5.out.av k e hlt⟩)) (by have h5 := HU.out; rw [List.length_append, List.length_take]; omega) hc2 hm2 (by have h3 := HH3.out; have h4 := HHB.out; have h5 := HU.out; rw [List.length_append, List.length_take]; omega) hb8⟩
          case measure => have := HLT.out; simp [intOf]; omega
    · obtain rfl : i = n := by omega
      have HRS := Lib.hid hR
      clear hR
      go_wp2_with (fail)
      go_ret
      exact ⟨rfl, HRS.out.o⟩
end
end Go.Proofs.Ytellkcppgfghhaa
