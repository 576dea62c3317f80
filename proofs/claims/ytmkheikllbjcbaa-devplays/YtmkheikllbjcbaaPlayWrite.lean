/-
  DevPlays: the switch, write.
-/
import Derived.Test.YtmkheikllbjcbaaPlayBase
namespace Go.Proofs.Ytmkheikllbjcbaa
open Go.RowKit Go.Maps

section
variable {P : Program} {ops : Array Oper} {Q : Exit → Act → World → Prop} {md : Region.Mode} {S : World → Prop} {s : Nat}
theorem wpAnyS_takeD {i d : Nat} {oi : Oper} (v : Value) {fuel : Nat} {listed : Array Bool} {a : Act} {w : World} (hi : ops[i]? = some oi) (hd : oi.dst = some d) (hs : Region.noSelect ops = true) (hf : Region.free md ops listed i = true)
    (hr : (Region.ready md ops listed).contains i = true) (hwait : ((ops[s]?).any fun o => o.after.any fun e => Region.binds md e && e.on == i) = true)
    (hQ : ∀ c a w, Q (.panic c) (a.put (some d) v) w → Q (.panic c) a w) (hy : YieldsIf P ops S oi v a) (hS : S w)
    (h : wpAnyS P md ops Q S s fuel (listed.setIfInBounds i true) (a.put (some d) v) w) : wpAnyS P md ops Q S s (fuel + 1) listed a w :=
  wpAnyS_take v hi hs hf hr hwait (by rw [hd]; exact hQ) hy hS (by rw [hd]; exact h)
end
set_option maxRecDepth 1000000 in
set_option maxHeartbeats 40000000 in
theorem play_write {w wx : World} {m g o len cap b rb t xb dq : Nat} {S : Dv} {x : ActV} {u2 u3 u4 u11 u12 u13 u14 u15 u16 u17 u18 u19 u20 u21 u22 u23 u24 u25 u26 u27 u28 u29 u30 u31 u32 u33 u34 u35 u36 u37 u38 u39 u40 u41 u42 u43 u44 u45 u46 u47 u48 u49 u50 u51 u52 u53 u54 u55 u56 u57 u58 u59 u60 u61 u62 u63 u64 u65 u66 u67 u68 u69 u70 u71 u72 u73 u74 u75 u76 u77 u78 u80 u81 u82 u83 u84 u85 u86 u87 u88 u89 u90 u91 u92 u93 u94 u95 u96 u97 u98 u99 u100 u101 u102 u103 u104 u105 u106 u107 u108 u109 u110 u111 u112 u113 u114 u115 u116 u117 u118 u119 u120 u121 u122 u123 u124 u125 u126 u127 u128 u129 u130 u131 u132 u133 u134 u135 u136 u137 u138 u139 u140 u141 u142 u143 u144 u145 u146 u147 u148 u149 u150 u151 u152 u153 u154 u155 u156 u157 u158 u159 u160 u161 u162 u163 u164 u165 u166 u167 u168 u169 u170 u171 u172 u173 u174 u175 u176 u177 u178 u179 u180 u181 u182 u183 u184 u185 u186 u187 u188 u189 u190 u191 u192 u193 u194 u195 u196 u197 u198 u199 u200 u201 u202 u203 u204 u205 u206 u207 u208 u209 u210 u211 u212 u213 u214 u215 u216 u217 u218 u219 u220 u221 u222 u223 u224 u225 u226 u227 u228 u229 u230 u231 u232 u233 u234 u235 u236 u237 u238 u239 u240 u241 u242 u243 u244 u245 u246 u247 u248 u249 u250 u251 u252 u253 u254 u255 u256 u257 u258 u259 u260 u261 u262 u263 u264 u265 u266 u267 u268 u269 u270 u271 u272 u273 u274 u275 u276 u277 u278 u279 u280 u281 u282 u283 u284 u285 u286 u287 u288 u289 u290 u291 u292 u293 u294 u295 u296 u297 u298 u299 u300 u301 u302 u303 u304 u305 u306 u307 u308 u309 u310 u311 u312 u313 u314 u315 u316 u317 u318 u319 u320 u321 u322 u323 u324 u325 u326 u327 u328 u329 u330 u331 u332 u333 u334 u335 u336 u337 u338 u339 u340 u341 u342 u343 : Value} {Q' : Exit → Act → World → Prop} {J K' : Act → World → Prop}
    (H : PlayIn w wx m len b rb t xb dq S x) (hw : dq < 3) (hP : ∀ c a a' w', Q' (.panic c) a w' → Q' (.panic c) a' w')
    (hJ : ∀ (a' : Act) (w' : World), (∃ u4 u10 u11 u12 u13 u14 u15 u16 u17 u56 u57 u58 u59 u60 u61 u62 u63 u64 u65 u66 u67 u68 u69 u70 u71 u72 u73 u74 u75 u76 u77 u78 u79 u80 u81 u82 u83 u84 u85 u86 u87 u88 u89 u90 u91 u92 u93 u94 u95 u96 u97 u98 u99 u100 u101 u102 u103 u104 u105 u106 u107 u108 u109 u110 u111 u112 u113 u114 u115 u116 u117 u118 u119 u120 u121 u122 u123 u124 u125 u126 u127 u128 u129 u130 u131 u132 u133 u134 u135 u136 u137 u138 u139 u140 u141 u142 u143 u144 u145 u146 u147 u148 u149 u150 u151 u152 u153 u154 u155 u156 u157 u158 u159 u160 u161 u162 u163 u164 u165 u166 u167 u168 u169 u170 u171 u172 u173 u174 u175 u176 u177 u178 u179 u180 u181 u182 u183 u184 u185 u186 u187 u188 u189 u190 u191 u192 u193 u194 u195 u196 u197 u198 u199 u200 u201 u202 u203 u204 u205 u206 u207 u208 u209 u210 u211 u212 u213 u214 u215 u216 u217 u218 u219 u220 u221 u222 u223 u224 u225 u226 u227 u228 u229 u230 u231 u232 u233 u234 u235 u236 u237 u238 u239 u240 u241 u242 u243 u244 u245 u246 u247 u248 u249 u250 u251 u252 u253 u254 u255 u256 u257 u258 u259 u260 u261 u262 u263 u264 u265 u266 u267 u268 u269 u270 u271 u272 u273 u274 u275 u276 u277 u278 u279 u280 u281 u282 u283 u284 u285 u286 u287 u288 u289 u290 u291 u292 u293 u294 u295 u296 u297 u298 u299 u300 u301 u302 u303 u304 u305 u306 u307 u308 u309 u310 u311 u312 u313 u314 u315 u316 u317 u318 u319 u320 u321 u322 u323 u324 u325 u326 u327 u328 u329 u330 u331 u332 u333 u334 u335 u336 u337 u338 u339 u340 u341 u342 u343 : Value, PlayPost w.heap.size b rb m t w w' ∧ a' = ⟨#[.int .i64 (m : Int), .slice (some ⟨g, o, none⟩) len cap, u2, u3, u4, .pointer (some ⟨b, 0, none⟩), .int .i64 0, .pointer (some ⟨rb, 0, none⟩), .int .i64 (t : Int), .pointer (some ⟨xb, 0, none⟩), u10, u11, u12, u13, u14, u15, u16, u17, u18, u19, u20, u21, u22, u23, u24, u25, u26, u27, u28, u29, u30, u31, u32, u33, u34, u35, u36, u37, u38, u39, u40, u41, u42, u43, u44, u45, u46, u47, u48, u49, u50, u51, u52, u53, u54, u55, u56, u57, u58, u59, u60, u61, u62, u63, u64, u65, u66, u67, u68, u69, u70, u71, u72, u73, u74, u75, u76, u77, u78, u79, u80, u81, u82, u83, u84, u85, u86, u87, u88, u89, u90, u91, u92, u93, u94, u95, u96, u97, u98, u99, u100, u101, u102, u103, u104, u105, u106, u107, u108, u109, u110, u111, u112, u113, u114, u115, u116, u117, u118, u119, u120, u121, u122, u123, u124, u125, u126, u127, u128, u129, u130, u131, u132, u133, u134, u135, u136, u137, u138, u139, u140, u141, u142, u143, u144, u145, u146, u147, u148, u149, u150, u151, u152, u153, u154, u155, u156, u157, u158, u159, u160, u161, u162, u163, u164, u165, u166, u167, u168, u169, u170, u171, u172, u173, u174, u175, u176, u177, u178, u179, u180, u181, u182, u183, u184, u185, u186, u187, u188, u189, u190, u191, u192, u193, u194, u195, u196, u197, u198, u199, u200, u201, u202, u203, u204, u205, u206, u207, u208, u209, u210, u211, u212, u213, u214, u215, u216, u217, u218, u219, u220, u221, u222, u223, u224, u225, u226, u227, u228, u229, u230, u231, u232, u233, u234, u235, u236, u237, u238, u239, u240, u241, u242, u243, u244, u245, u246, u247, u248, u249, u250, u251, u252, u253, u254, u255, u256, u257, u258, u259, u260, u261, u262, u263, u264, u265, u266, u267, u268, u269, u270, u271, u272, u273, u274, u275, u276, u277, u278, u279, u280, u281, u282, u283, u284, u285, u286, u287, u288, u289, u290, u291, u292, u293, u294, u295, u296, u297, u298, u299, u300, u301, u302, u303, u304, u305, u306, u307, u308, u309, u310, u311, u312, u313, u314, u315, u316, u317, u318, u319, u320, u321, u322, u323, u324, u325, u326, u327, u328, u329, u330, u331, u332, u333, u334, u335, u336, u337, u338, u339, u340, u341, u342, u343], []⟩) → J a' w')
    (hK : ∀ (a' : Act) (w' : World), Met J a' w' → K' a' w') :
    Code.wp Try.prog swCode (Exit.then K' Q') ⟨#[.int .i64 (m : Int), .slice (some ⟨g, o, none⟩) len cap, u2, u3, u4, .pointer (some ⟨b, 0, none⟩), .int .i64 0, .pointer (some ⟨rb, 0, none⟩), .int .i64 (t : Int), .pointer (some ⟨xb, 0, none⟩), .int .i64 (reachE S x.at_), u11, u12, u13, u14, u15, u16, u17, u18, u19, u20, u21, u22, u23, u24, u25, u26, u27, u28, u29, u30, u31, u32, u33, u34, u35, u36, u37, u38, u39, u40, u41, u42, u43, u44, u45, u46, u47, u48, u49, u50, u51, u52, u53, u54, u55, u56, u57, u58, u59, u60, u61, u62, u63, u64, u65, u66, u67, u68, u69, u70, u71, u72, u73, u74, u75, u76, u77, u78, .int .u8 ((x.do_.toNat : Int) % 10), u80, u81, u82, u83, u84, u85, u86, u87, u88, u89, u90, u91, u92, u93, u94, u95, u96, u97, u98, u99, u100, u101, u102, u103, u104, u105, u106, u107, u108, u109, u110, u111, u112, u113, u114, u115, u116, u117, u118, u119, u120, u121, u122, u123, u124, u125, u126, u127, u128, u129, u130, u131, u132, u133, u134, u135, u136, u137, u138, u139, u140, u141, u142, u143, u144, u145, u146, u147, u148, u149, u150, u151, u152, u153, u154, u155, u156, u157, u158, u159, u160, u161, u162, u163, u164, u165, u166, u167, u168, u169, u170, u171, u172, u173, u174, u175, u176, u177, u178, u179, u180, u181, u182, u183, u184, u185, u186, u187, u188, u189, u190, u191, u192, u193, u194, u195, u196, u197, u198, u199, u200, u201, u202, u203, u204, u205, u206, u207, u208, u209, u210, u211, u212, u213, u214, u215, u216, u217, u218, u219, u220, u221, u222, u223, u224, u225, u226, u227, u228, u229, u230, u231, u232, u233, u234, u235, u236, u237, u238, u239, u240, u241, u242, u243, u244, u245, u246, u247, u248, u249, u250, u251, u252, u253, u254, u255, u256, u257, u258, u259, u260, u261, u262, u263, u264, u265, u266, u267, u268, u269, u270, u271, u272, u273, u274, u275, u276, u277, u278, u279, u280, u281, u282, u283, u284, u285, u286, u287, u288, u289, u290, u291, u292, u293, u294, u295, u296, u297, u298, u299, u300, u301, u302, u303, u304, u305, u306, u307, u308, u309, u310, u311, u312, u313, u314, u315, u316, u317, u318, u319, u320, u321, u322, u323, u324, u325, u326, u327, u328, u329, u330, u331, u332, u333, u334, u335, u336, u337, u338, u339, u340, u341, u342, u343], []⟩ wx := by
  conv => arg 2; whnf
  obtain ⟨hg1, hg2, h80, hlt, hcnt, HMED, hn0, hn1, hat0, hat1, b1, HB1, HXB, hxs, y0, y1, y2, y3, y4, HKP, hdo, hdq, hdq10⟩ := H
  have hBz := b1.size
  go_upto_if 80 with (fail)
  go_cut [79, 80] from 56 to 343 (fun _ s80 wc => s80 = .bool true ∧ wc = wx)
  case first => as_aux_lemma =>
    rcases (show dq = 0 ∨ dq = 1 ∨ dq = 2 by omega) with hw | hw | hw
    · subst hw
      have hdq : (x.do_.toNat : Int) % 10 = 0 := by omega
      go_wp2
      go_meet
      exact ⟨rfl, rfl⟩
    · subst hw
      have hdq : (x.do_.toNat : Int) % 10 = 1 := by omega
      go_wp2
      go_meet
      exact ⟨rfl, rfl⟩
    · subst hw
      have hdq : (x.do_.toNat : Int) % 10 = 2 := by omega
      go_wp2
      go_meet
      exact ⟨rfl, rfl⟩
  case rest => as_aux_lemma =>
    obtain ⟨rfl, rfl⟩ := hcut
    clear y0 hdq hdq10 hw hdo
    have hFu := full_any x.fill wc
    have hsz := full_size x.fill
    go_wp2_with fail
    refine hFu.mono ?_
    rintro e w4 ⟨rfl, b4⟩
    (try dsimp only)
    have hx4 := (b4.block xb hxs).trans HXB.out
    have hB4 := HB1.out.below b4
    have b5 := early b1 hBz b4
    have z1 : w4.cell? ⟨xb, 1, none⟩ = some (.int .i64 x.at_) := by simp [World.cell?, hx4]
    have z2 : w4.cell? ⟨xb, 2, none⟩ = some (.int .i64 x.n) := by simp [World.cell?, hx4]
    have HX4 := Lib.hid hx4
    have HB4 := Lib.hid hB4
    clear hx4 hB4 hFu y1 y2 y3 y4
    generalize hst : strOf (fullS x.fill) = st at *
    have HST := Lib.hid hst
    clear hst
    by_cases h7 : x.n.tmod 7 = 0
    · have d7 : (x.n.tmod 7 == 0) = true := by simpa using h7
      by_cases hz : reachE S x.at_ = 0
      · obtain ⟨fp, _, hdv, _⟩ := HB4.out
        have hF := write_len b S fp x.at_ (st.extract 1 64) w4 hdv hz (by simp [hsz])
        rw [hz]
        clear hdv
        go_wp2_with fail
        refine hF.mono ?_
        rintro e w6 ⟨rfl, rfl⟩
        (try dsimp only)
        go_wp2
        go_meet
        exact ⟨S, HB4.out.free, HMED.out, by omega, b5⟩
      · obtain ⟨fp, _, hdv, _⟩ := HB4.out
        have hF := fun s => write_no b S fp x.at_ s w4 hdv hz
        generalize reachE S x.at_ = r at *
        have r0 : (r == 0) = false := by simpa using hz
        have r2 : (r != r) = false := by simp
        clear hdv
        go_wp2_with fail
        refine (hF _).mono ?_
        rintro e w6 ⟨rfl, rfl⟩
        (try dsimp only)
        go_wp2
        go_meet
        exact ⟨S, HB4.out.free, HMED.out, by omega, b5⟩
    · have d7 : (x.n.tmod 7 == 0) = false := by simpa using h7
      by_cases hz : reachE S x.at_ = 0
      · obtain ⟨hl, k, hk, hkm⟩ := reach_zero hz
        rw [hz]
        rw [hk] at z1
        obtain ⟨rp, ⟨mb, mc, sb, sc, hdd, hr⟩, hFr, H⟩ := HB4.out.ref b5.size
        have p1 := hr.c1
        have p3 := hr.c3
        have f3 := hr.fr 3
        have hok := hr.v.ok
        by_cases hp : S.pass = true
        · obtain ⟨fz, hfz⟩ : ∃ fz, fz = fuseV S := ⟨_, rfl⟩
          have z3 : -1 ≤ fz := by rw [hfz]; unfold fuseV; split <;> omega
          have z4 : fz ≤ 9223372036854775807 := by rw [hfz]; have := hok.left; unfold fuseV; split <;> omega
          have hsp : fuseV S.spent = max (fz - 1) (-1) := by
            rw [hfz]; unfold fuseV Dv.spent; unfold Dv.pass at hp
            cases hfu : S.fused with
            | true => rw [hfu] at hp; simp at hp; simp; omega
            | false => simp <;> omega
          have z0 : (fz == 0) = false := by
            rw [hfz]; unfold fuseV; unfold Dv.pass at hp
            cases hfu : S.fused with
            | true => rw [hfu] at hp; simp at hp; simp; omega
            | false => simp
          have hok5 : DvOk S.spent := ⟨hok.n1, hok.n2, hok.out, by have := hok.left; unfold Dv.spent; simp only; split <;> omega, hok.cnts⟩
          have hr5 := hr.set3 S.spent rfl rfl rfl hok5
          have t5 : Turn rp w4 (w4.setCell ⟨rb, 3, none⟩ (.int .i64 (fuseV S.spent))) := (Turn.refl _ _).setCell (.inl hr.fb) _
          rw [hsp] at hr5 t5
          rw [← hfz] at p3
          have hx0 : xb < w4.heap.size := Nat.lt_of_lt_of_le hxs b4.size
          have x5 : (w4.setCell ⟨rb, 3, none⟩ (.int .i64 (max (fz - 1) (-1)))).cell? ⟨xb, 1, none⟩ = some (.int .i64 (k : Int)) := by
            rw [World.cell?_of_block (w := w4) (t5.block xb hx0 (hFr xb rfl))]; exact z1
          have hz5 : w4.heap.size ≤ (w4.setCell ⟨rb, 3, none⟩ (.int .i64 (max (fz - 1) (-1)))).heap.size := t5.size
          have HFR := Lib.hid hFr
          have HH := Lib.hid H
          have HR5 := Lib.hid hr5
          have HK := Lib.hid hk
          clear hsp hfz hr5 hr H hFr hz hk
          have hn2 := hok.n2
          go_upto_region 29 with (fail)
          generalize w4.setCell ⟨rb, 3, none⟩ (.int .i64 (max (fz - 1) (-1))) = w5 at *
          have hr6 : RefIn w5.drew rb mb mc sb sc hdd S.spent rp := HR5.out.same (Nat.le_refl _) fun _ _ => rfl
          have hr7 : RefIn (w5.drew.alloc (.cells #[.string st] 9)) rb mb mc sb sc hdd S.spent rp := hr6.same (by simp) fun j hj => ((Below.refl _ w5.drew).alloc (Nat.le_refl _) _).block j (hr6.v.lt j hj)
          have t7 : Turn rp w4 (w5.drew.alloc (.cells #[.string st] 9)) := t5.trans (Turn.of_below (((Below.refl w5.heap.size w5).drew).alloc (Nat.le_refl _) _)) (fun _ h => .inl h)
          obtain ⟨g7, c7, w8, e1, t8, d1, d2, f8, hD⟩ := ref_core hr7 k hkm w5.drew.heap.size (fullS x.fill) (by rw [HST.out]; exact cell_new w5.drew _ _) (by show S.cnt < _; omega) 42
          have x7 : (w5.drew.alloc (.cells #[.string st] 9)).cell? ⟨xb, 1, none⟩ = some (.int .i64 (k : Int)) := by
            rw [World.cell?_of_block (w := w4) (t7.block xb hx0 (HFR.out xb rfl))]; exact z1
          have x8 : w8.cell? ⟨xb, 1, none⟩ = some (.int .i64 (k : Int)) := by
            rw [World.cell?_of_block (w := w4) ((t7.trans t8 fun _ h => .inl h).block xb hx0 (HFR.out xb rfl))]; exact z1
          have q1 := hr6.c1
          have q2 := hr6.v.sin.cells k hkm
          have s1 := hr7.c1
          have s2 := hr7.v.sin.cells k hkm
          have x6 : w5.drew.cell? ⟨xb, 1, none⟩ = some (.int .i64 (k : Int)) := x5
          have hsl : S.spent.med.length = m := HMED.out
          have hsc : (S.spent.since k).length ≤ S.cnt := hok.cnts k
          rw [hsl] at q1 s1 d1
          have hkm' : k < m := by rw [← HMED.out]; exact hkm
          generalize hrv : (rvOf S.spent hdd k).val = rv at *
          generalize hsn : (S.spent.since k).length = sn at *
          obtain ⟨n, hn⟩ : ∃ n, n = m := ⟨_, rfl⟩
          rw [← hn] at q1 s1 d1 hkm'
          have hnb : n ≤ 60 := by omega
          have HD := Lib.hid hD
          have HN := Lib.hid hn
          have T7 := Lib.hid t7
          clear hr6 hr7 hD hrv hsn hn t7 t8 t5 x5 p1 p3 hsl
          refine wp_region_S 14 (fun w' => w'.cell? ⟨rb, 1, none⟩ = some (.slice (some ⟨sb, 0, none⟩) n sc) ∧ w'.cell? ⟨xb, 1, none⟩ = some (.int .i64 (k : Int)) ∧ w'.cell? ⟨sb, k, none⟩ = some rv) rfl ?_
          have hS : w5.drew.cell? ⟨rb, 1, none⟩ = some (.slice (some ⟨sb, 0, none⟩) n sc) ∧ w5.drew.cell? ⟨xb, 1, none⟩ = some (.int .i64 (k : Int)) ∧ w5.drew.cell? ⟨sb, k, none⟩ = some rv := ⟨q1, x6, q2⟩
          (try go_frame)
          refine wpAnyS_takeD (i := 0) (d := 114) (.pointer (some ⟨rb, 1, none⟩)) rfl rfl (by kernel_rfl) (by kernel_rfl) (by kernel_rfl) (by kernel_rfl) (fun _ _ _ h => hP _ _ _ _ h) (Or.inl ⟨by rfl, fun w' hw' => ?_⟩) hS ?_
          · go_simp
          (try go_frame)
          refine wpAnyS_takeD (i := 1) (d := 115) (.slice (some ⟨sb, 0, none⟩) n sc) rfl rfl (by kernel_rfl) (by kernel_rfl) (by kernel_rfl) (by kernel_rfl) (fun _ _ _ h => hP _ _ _ _ h) (Or.inl ⟨by rfl, fun w' hw' => ?_⟩) hS ?_
          · (obtain ⟨y1, y2, y3⟩ := hw'; go_simp)
          (try go_frame)
          refine wpAnyS_takeD (i := 2) (d := 116) (.pointer (some ⟨xb, 1, none⟩)) rfl rfl (by kernel_rfl) (by kernel_rfl) (by kernel_rfl) (by kernel_rfl) (fun _ _ _ h => hP _ _ _ _ h) (Or.inl ⟨by rfl, fun w' hw' => ?_⟩) hS ?_
          · go_simp
          (try go_frame)
          refine wpAnyS_takeD (i := 3) (d := 117) (.int .i64 (k : Int)) rfl rfl (by kernel_rfl) (by kernel_rfl) (by kernel_rfl) (by kernel_rfl) (fun _ _ _ h => hP _ _ _ _ h) (Or.inl ⟨by rfl, fun w' hw' => ?_⟩) hS ?_
          · (obtain ⟨y1, y2, y3⟩ := hw'; go_simp)
          (try go_frame)
          refine wpAnyS_takeD (i := 4) (d := 118) (.pointer (some ⟨rb, 1, none⟩)) rfl rfl (by kernel_rfl) (by kernel_rfl) (by kernel_rfl) (by kernel_rfl) (fun _ _ _ h => hP _ _ _ _ h) (Or.inl ⟨by rfl, fun w' hw' => ?_⟩) hS ?_
          · go_simp
          (try go_frame)
          refine wpAnyS_takeD (i := 5) (d := 119) (.slice (some ⟨sb, 0, none⟩) n sc) rfl rfl (by kernel_rfl) (by kernel_rfl) (by kernel_rfl) (by kernel_rfl) (fun _ _ _ h => hP _ _ _ _ h) (Or.inl ⟨by rfl, fun w' hw' => ?_⟩) hS ?_
          · (obtain ⟨y1, y2, y3⟩ := hw'; go_simp)
          (try go_frame)
          refine wpAnyS_takeD (i := 6) (d := 120) (.pointer (some ⟨xb, 1, none⟩)) rfl rfl (by kernel_rfl) (by kernel_rfl) (by kernel_rfl) (by kernel_rfl) (fun _ _ _ h => hP _ _ _ _ h) (Or.inl ⟨by rfl, fun w' hw' => ?_⟩) hS ?_
          · go_simp
          (try go_frame)
          refine wpAnyS_takeD (i := 7) (d := 121) (.int .i64 (k : Int)) rfl rfl (by kernel_rfl) (by kernel_rfl) (by kernel_rfl) (by kernel_rfl) (fun _ _ _ h => hP _ _ _ _ h) (Or.inl ⟨by rfl, fun w' hw' => ?_⟩) hS ?_
          · (obtain ⟨y1, y2, y3⟩ := hw'; go_simp)
          (try go_frame)
          refine wpAnyS_takeD (i := 8) (d := 122) (.pointer (some ⟨sb, k, none⟩)) rfl rfl (by kernel_rfl) (by kernel_rfl) (by kernel_rfl) (by kernel_rfl) (fun _ _ _ h => hP _ _ _ _ h) (Or.inl ⟨by rfl, fun w' hw' => ?_⟩) hS ?_
          · go_simp
          (try go_frame)
          refine wpAnyS_takeD (i := 9) (d := 123) (rv) rfl rfl (by kernel_rfl) (by kernel_rfl) (by kernel_rfl) (by kernel_rfl) (fun _ _ _ h => hP _ _ _ _ h) (Or.inl ⟨by rfl, fun w' hw' => ?_⟩) hS ?_
          · (obtain ⟨y1, y2, y3⟩ := hw'; go_simp)
          (try go_frame)
          refine wpAnyS_takeD (i := 10) (d := 124) (.string st) rfl rfl (by kernel_rfl) (by kernel_rfl) (by kernel_rfl) (by kernel_rfl) (fun _ _ _ h => hP _ _ _ _ h) (Or.inl ⟨by rfl, fun w' hw' => ?_⟩) hS ?_
          · go_simp
          (try go_frame)
          refine wpAnyS_step (i := 11) (by kernel_rfl) rfl rfl fun K hK => ?_
          clear hS
          go_simp
          refine hK _ _ (fun _ => ⟨s1, x7, s2⟩) ?_
          clear hK
          (try go_frame)
          refine wpAnyS_step (i := 12) (by kernel_rfl) rfl rfl fun K hK => Lib.wp_append_run _ _ _ _ _ rfl _ _ rfl rfl _ _ e1 ?_
          refine hK _ _ (fun _ => ⟨d1, x8, d2⟩) ?_
          clear hK
          (try go_frame)
          have hS : w8.cell? ⟨rb, 1, none⟩ = some (.slice (some ⟨sb, 0, none⟩) n sc) ∧ w8.cell? ⟨xb, 1, none⟩ = some (.int .i64 (k : Int)) ∧ w8.cell? ⟨sb, k, none⟩ = some rv := ⟨d1, x8, d2⟩
          refine wpAnyS_takeD (i := 13) (d := 127) (.pointer (some ⟨sb, k, none⟩)) rfl rfl (by kernel_rfl) (by kernel_rfl) (by kernel_rfl) (by kernel_rfl) (fun _ _ _ h => hP _ _ _ _ h) (Or.inl ⟨by rfl, fun w' hw' => ?_⟩) hS ?_
          · go_simp
          (try go_frame)
          refine wpAnyS_step (i := 14) (by kernel_rfl) rfl rfl fun K hK => ?_
          go_simp
          refine hK _ _ (fun h => absurd rfl h) ?_
          clear hK
          refine wpAnyS_done (by kernel_rfl) ?_ _
          obtain ⟨rp', g1', g2', g3'⟩ := HD.out
          have hfin := HH.out _ (S.spent.put k (fullS x.fill)) ⟨rp', g1', fun j hj => (g2' j hj).imp id (Nat.le_trans T7.out.size), T7.out.trans g3' fun _ h => .inl h⟩
          clear g1' g2' g3' e1 d1 d2 f8 x8 x7 x6 q1 q2 s1 s2
          generalize w8.setCell ⟨sb, k, none⟩ (.slice (some ⟨g7, 0, none⟩) (sn + 1) c7) = w9 at *
          have x9 : w9.cell? ⟨xb, 1, none⟩ = some (.int .i64 (k : Int)) := by
            rw [World.cell?_of_block (w := w4) (hfin.2.2 xb rfl)]; exact z1
          have b9 := b5.trans hfin.2.1
          have hW := hfin.1.dev b9.size (fun fp hd => write_ok b S fp k st w9 hd hl hkm hsz hp (by omega))
          rw [show st.data.toList = fullS x.fill by rw [← HST.out, strOf_list]] at hW
          clear hfin HD HH T7
          go_wp2_with fail
          refine hW.mono ?_
          rintro e w10 ⟨rfl, hB10, b10, _⟩
          (try dsimp only)
          go_wp2
          go_meet
          exact ⟨_, hB10.free, HMED.out, by show S.cnt + 1 ≤ _; omega, b9.trans b10⟩
        · have hp' : S.pass = false := by simpa using hp
          have hfz : fuseV S = 0 := by
            unfold fuseV; unfold Dv.pass at hp'
            cases hfu : S.fused with
            | true => rw [hfu] at hp'; simp at hp'; simp; omega
            | false => rw [hfu] at hp'; simp at hp'
          rw [hfz] at p3
          have hF := HB4.out.dev b5.size (fun fp hd => write_fuse b S fp x.at_ st w4 hd hz hsz hp')
          rw [hk] at hF
          clear H hr hk hz
          go_wp2_with fail
          refine hF.mono ?_
          rintro e w6 ⟨rfl, hB6, b6, _⟩
          (try dsimp only)
          go_wp2
          go_meet
          exact ⟨S, hB6.free, HMED.out, by omega, b5.trans b6⟩
      · obtain ⟨fp, _, hdv, _⟩ := HB4.out
        have hF := fun s => write_no b S fp x.at_ s w4 hdv hz
        generalize reachE S x.at_ = r at *
        have r0 : (r == 0) = false := by simpa using hz
        have r2 : (r != r) = false := by simp
        clear hdv
        go_wp2_with fail
        refine (hF _).mono ?_
        rintro e w6 ⟨rfl, rfl⟩
        (try dsimp only)
        go_wp2
        go_meet
        exact ⟨S, HB4.out.free, HMED.out, by omega, b5⟩
end Go.Proofs.Ytmkheikllbjcbaa
