/-
  DevPlays: the switch, flush.
-/
import Derived.Test.YtmkheikllbjcbaaPlayBase
namespace Go.Proofs.Ytmkheikllbjcbaa
open Go.RowKit Go.Maps

set_option maxRecDepth 1000000 in
set_option maxHeartbeats 40000000 in
theorem play_flush {w wx : World} {m g o len cap b rb t xb dq : Nat} {S : Dv} {x : ActV} {u2 u3 u4 u11 u12 u13 u14 u15 u16 u17 u18 u19 u20 u21 u22 u23 u24 u25 u26 u27 u28 u29 u30 u31 u32 u33 u34 u35 u36 u37 u38 u39 u40 u41 u42 u43 u44 u45 u46 u47 u48 u49 u50 u51 u52 u53 u54 u55 u56 u57 u58 u59 u60 u61 u62 u63 u64 u65 u66 u67 u68 u69 u70 u71 u72 u73 u74 u75 u76 u77 u78 u80 u81 u82 u83 u84 u85 u86 u87 u88 u89 u90 u91 u92 u93 u94 u95 u96 u97 u98 u99 u100 u101 u102 u103 u104 u105 u106 u107 u108 u109 u110 u111 u112 u113 u114 u115 u116 u117 u118 u119 u120 u121 u122 u123 u124 u125 u126 u127 u128 u129 u130 u131 u132 u133 u134 u135 u136 u137 u138 u139 u140 u141 u142 u143 u144 u145 u146 u147 u148 u149 u150 u151 u152 u153 u154 u155 u156 u157 u158 u159 u160 u161 u162 u163 u164 u165 u166 u167 u168 u169 u170 u171 u172 u173 u174 u175 u176 u177 u178 u179 u180 u181 u182 u183 u184 u185 u186 u187 u188 u189 u190 u191 u192 u193 u194 u195 u196 u197 u198 u199 u200 u201 u202 u203 u204 u205 u206 u207 u208 u209 u210 u211 u212 u213 u214 u215 u216 u217 u218 u219 u220 u221 u222 u223 u224 u225 u226 u227 u228 u229 u230 u231 u232 u233 u234 u235 u236 u237 u238 u239 u240 u241 u242 u243 u244 u245 u246 u247 u248 u249 u250 u251 u252 u253 u254 u255 u256 u257 u258 u259 u260 u261 u262 u263 u264 u265 u266 u267 u268 u269 u270 u271 u272 u273 u274 u275 u276 u277 u278 u279 u280 u281 u282 u283 u284 u285 u286 u287 u288 u289 u290 u291 u292 u293 u294 u295 u296 u297 u298 u299 u300 u301 u302 u303 u304 u305 u306 u307 u308 u309 u310 u311 u312 u313 u314 u315 u316 u317 u318 u319 u320 u321 u322 u323 u324 u325 u326 u327 u328 u329 u330 u331 u332 u333 u334 u335 u336 u337 u338 u339 u340 u341 u342 u343 : Value} {Q' : Exit → Act → World → Prop} {J K' : Act → World → Prop}
    (H : PlayIn w wx m len b rb t xb dq S x) (hw : dq = 4)
    (hJ : ∀ (a' : Act) (w' : World), (∃ u4 u10 u11 u12 u13 u14 u15 u16 u17 u56 u57 u58 u59 u60 u61 u62 u63 u64 u65 u66 u67 u68 u69 u70 u71 u72 u73 u74 u75 u76 u77 u78 u79 u80 u81 u82 u83 u84 u85 u86 u87 u88 u89 u90 u91 u92 u93 u94 u95 u96 u97 u98 u99 u100 u101 u102 u103 u104 u105 u106 u107 u108 u109 u110 u111 u112 u113 u114 u115 u116 u117 u118 u119 u120 u121 u122 u123 u124 u125 u126 u127 u128 u129 u130 u131 u132 u133 u134 u135 u136 u137 u138 u139 u140 u141 u142 u143 u144 u145 u146 u147 u148 u149 u150 u151 u152 u153 u154 u155 u156 u157 u158 u159 u160 u161 u162 u163 u164 u165 u166 u167 u168 u169 u170 u171 u172 u173 u174 u175 u176 u177 u178 u179 u180 u181 u182 u183 u184 u185 u186 u187 u188 u189 u190 u191 u192 u193 u194 u195 u196 u197 u198 u199 u200 u201 u202 u203 u204 u205 u206 u207 u208 u209 u210 u211 u212 u213 u214 u215 u216 u217 u218 u219 u220 u221 u222 u223 u224 u225 u226 u227 u228 u229 u230 u231 u232 u233 u234 u235 u236 u237 u238 u239 u240 u241 u242 u243 u244 u245 u246 u247 u248 u249 u250 u251 u252 u253 u254 u255 u256 u257 u258 u259 u260 u261 u262 u263 u264 u265 u266 u267 u268 u269 u270 u271 u272 u273 u274 u275 u276 u277 u278 u279 u280 u281 u282 u283 u284 u285 u286 u287 u288 u289 u290 u291 u292 u293 u294 u295 u296 u297 u298 u299 u300 u301 u302 u303 u304 u305 u306 u307 u308 u309 u310 u311 u312 u313 u314 u315 u316 u317 u318 u319 u320 u321 u322 u323 u324 u325 u326 u327 u328 u329 u330 u331 u332 u333 u334 u335 u336 u337 u338 u339 u340 u341 u342 u343 : Value, PlayPost w.heap.size b rb m t w w' ∧ a' = ⟨#[.int .i64 (m : Int), .slice (some ⟨g, o, none⟩) len cap, u2, u3, u4, .pointer (some ⟨b, 0, none⟩), .int .i64 0, .pointer (some ⟨rb, 0, none⟩), .int .i64 (t : Int), .pointer (some ⟨xb, 0, none⟩), u10, u11, u12, u13, u14, u15, u16, u17, u18, u19, u20, u21, u22, u23, u24, u25, u26, u27, u28, u29, u30, u31, u32, u33, u34, u35, u36, u37, u38, u39, u40, u41, u42, u43, u44, u45, u46, u47, u48, u49, u50, u51, u52, u53, u54, u55, u56, u57, u58, u59, u60, u61, u62, u63, u64, u65, u66, u67, u68, u69, u70, u71, u72, u73, u74, u75, u76, u77, u78, u79, u80, u81, u82, u83, u84, u85, u86, u87, u88, u89, u90, u91, u92, u93, u94, u95, u96, u97, u98, u99, u100, u101, u102, u103, u104, u105, u106, u107, u108, u109, u110, u111, u112, u113, u114, u115, u116, u117, u118, u119, u120, u121, u122, u123, u124, u125, u126, u127, u128, u129, u130, u131, u132, u133, u134, u135, u136, u137, u138, u139, u140, u141, u142, u143, u144, u145, u146, u147, u148, u149, u150, u151, u152, u153, u154, u155, u156, u157, u158, u159, u160, u161, u162, u163, u164, u165, u166, u167, u168, u169, u170, u171, u172, u173, u174, u175, u176, u177, u178, u179, u180, u181, u182, u183, u184, u185, u186, u187, u188, u189, u190, u191, u192, u193, u194, u195, u196, u197, u198, u199, u200, u201, u202, u203, u204, u205, u206, u207, u208, u209, u210, u211, u212, u213, u214, u215, u216, u217, u218, u219, u220, u221, u222, u223, u224, u225, u226, u227, u228, u229, u230, u231, u232, u233, u234, u235, u236, u237, u238, u239, u240, u241, u242, u243, u244, u245, u246, u247, u248, u249, u250, u251, u252, u253, u254, u255, u256, u257, u258, u259, u260, u261, u262, u263, u264, u265, u266, u267, u268, u269, u270, u271, u272, u273, u274, u275, u276, u277, u278, u279, u280, u281, u282, u283, u284, u285, u286, u287, u288, u289, u290, u291, u292, u293, u294, u295, u296, u297, u298, u299, u300, u301, u302, u303, u304, u305, u306, u307, u308, u309, u310, u311, u312, u313, u314, u315, u316, u317, u318, u319, u320, u321, u322, u323, u324, u325, u326, u327, u328, u329, u330, u331, u332, u333, u334, u335, u336, u337, u338, u339, u340, u341, u342, u343], []⟩) → J a' w')
    (hK : ∀ (a' : Act) (w' : World), Met J a' w' → K' a' w') :
    Code.wp Try.prog swCode (Exit.then K' Q') ⟨#[.int .i64 (m : Int), .slice (some ⟨g, o, none⟩) len cap, u2, u3, u4, .pointer (some ⟨b, 0, none⟩), .int .i64 0, .pointer (some ⟨rb, 0, none⟩), .int .i64 (t : Int), .pointer (some ⟨xb, 0, none⟩), .int .i64 (reachE S x.at_), u11, u12, u13, u14, u15, u16, u17, u18, u19, u20, u21, u22, u23, u24, u25, u26, u27, u28, u29, u30, u31, u32, u33, u34, u35, u36, u37, u38, u39, u40, u41, u42, u43, u44, u45, u46, u47, u48, u49, u50, u51, u52, u53, u54, u55, u56, u57, u58, u59, u60, u61, u62, u63, u64, u65, u66, u67, u68, u69, u70, u71, u72, u73, u74, u75, u76, u77, u78, .int .u8 ((x.do_.toNat : Int) % 10), u80, u81, u82, u83, u84, u85, u86, u87, u88, u89, u90, u91, u92, u93, u94, u95, u96, u97, u98, u99, u100, u101, u102, u103, u104, u105, u106, u107, u108, u109, u110, u111, u112, u113, u114, u115, u116, u117, u118, u119, u120, u121, u122, u123, u124, u125, u126, u127, u128, u129, u130, u131, u132, u133, u134, u135, u136, u137, u138, u139, u140, u141, u142, u143, u144, u145, u146, u147, u148, u149, u150, u151, u152, u153, u154, u155, u156, u157, u158, u159, u160, u161, u162, u163, u164, u165, u166, u167, u168, u169, u170, u171, u172, u173, u174, u175, u176, u177, u178, u179, u180, u181, u182, u183, u184, u185, u186, u187, u188, u189, u190, u191, u192, u193, u194, u195, u196, u197, u198, u199, u200, u201, u202, u203, u204, u205, u206, u207, u208, u209, u210, u211, u212, u213, u214, u215, u216, u217, u218, u219, u220, u221, u222, u223, u224, u225, u226, u227, u228, u229, u230, u231, u232, u233, u234, u235, u236, u237, u238, u239, u240, u241, u242, u243, u244, u245, u246, u247, u248, u249, u250, u251, u252, u253, u254, u255, u256, u257, u258, u259, u260, u261, u262, u263, u264, u265, u266, u267, u268, u269, u270, u271, u272, u273, u274, u275, u276, u277, u278, u279, u280, u281, u282, u283, u284, u285, u286, u287, u288, u289, u290, u291, u292, u293, u294, u295, u296, u297, u298, u299, u300, u301, u302, u303, u304, u305, u306, u307, u308, u309, u310, u311, u312, u313, u314, u315, u316, u317, u318, u319, u320, u321, u322, u323, u324, u325, u326, u327, u328, u329, u330, u331, u332, u333, u334, u335, u336, u337, u338, u339, u340, u341, u342, u343], []⟩ wx := by
  conv => arg 2; whnf
  obtain ⟨hg1, hg2, h80, hlt, hcnt, HMED, hn0, hn1, hat0, hat1, b1, HB1, HXB, hxs, y0, y1, y2, y3, y4, HKP, hdo, hdq, hdq10⟩ := H
  have hBz := b1.size
  subst hw
  have hdq : (x.do_.toNat : Int) % 10 = 4 := by omega
  obtain ⟨rp, ⟨mb, mc, sb, sc, hdd, hr⟩, _, H⟩ := HB1.out.ref hBz
  have p0 := hr.c0
  have p1 := hr.c1
  have p2 := hr.c2
  have p3 := hr.c3
  have f0 := hr.fr 0
  have f1 := hr.fr 1
  have f2 := hr.fr 2
  have f3 := hr.fr 3
  have hok := hr.v.ok
  by_cases hl : S.lost = true
  · obtain ⟨fp, _, hdv, _⟩ := HB1.out
    have hF := flush_lost b S fp wx hdv hl
    rw [hl] at p2
    clear H hr hdv
    go_wp2_with fail
    refine hF.mono ?_
    rintro e w4 ⟨rfl, rfl⟩
    (try dsimp only)
    go_wp2
    go_meet
    exact ⟨S, HB1.out.free, HMED.out, by omega, b1⟩
  · have hl' : S.lost = false := by simpa using hl
    rw [hl'] at p2
    by_cases hp : S.pass = true
    · obtain ⟨fz, hfz⟩ : ∃ fz, fz = fuseV S := ⟨_, rfl⟩
      have z1 : -1 ≤ fz := by rw [hfz]; unfold fuseV; split <;> omega
      have z2 : fz ≤ 9223372036854775807 := by rw [hfz]; have := hok.left; unfold fuseV; split <;> omega
      have hsp : fuseV S.spent = max (fz - 1) (-1) := by
        rw [hfz]; unfold fuseV Dv.spent; unfold Dv.pass at hp
        cases hfu : S.fused with
        | true => rw [hfu] at hp; simp at hp; simp; omega
        | false => simp <;> omega
      have z0 : (fz == 0) = false := by
        rw [hfz]; unfold fuseV; unfold Dv.pass at hp
        cases hfu : S.fused with
        | true => rw [hfu] at hp; simp at hp; simp; omega
        | false => simp
      have hok5 : DvOk S.spent := ⟨hok.n1, hok.n2, hok.out, by have := hok.left; unfold Dv.spent; simp only; split <;> omega, hok.cnts⟩
      have hr5 := hr.set3 S.spent rfl rfl rfl hok5
      have hB5 := H _ S.spent ⟨rp, ⟨mb, mc, sb, sc, hdd, hr5⟩, fun k hk => .inl hk, (Turn.refl _ _).setCell (.inl hr.fb) _⟩
      have hFl := refFlushed_any mb mc sb sc hdd S.spent rp _ hr5.v (by show S.cnt ≤ _; omega) hl'
      rw [show refCells S.spent mb mc sb sc = #[.slice (some ⟨mb, 0, none⟩) S.med.length mc, .slice (some ⟨sb, 0, none⟩) S.med.length sc, .bool false, .int .i64 (max (fz - 1) (-1))] by unfold refCells; rw [hsp]; show #[_, _, Value.bool S.lost, _] = _; rw [hl']; rfl] at hFl
      rw [hsp] at hFl hB5
      rw [← hfz] at p3
      have HB5 := Lib.hid hB5
      have HSP := Lib.hid hsp
      have HR5 := Lib.hid hr5
      clear hsp hfz hr5 hr hB5 H
      generalize S.med.length = n at p0 p1 hFl
      go_wp2_with fail
      refine hFl.mono ?_
      rintro e w6 ⟨mb', mc', sb', sc', rp', rfl, hV, hrp, b6⟩
      (try dsimp only)
      have hB0 : w.heap.size ≤ (wx.setCell ⟨rb, 3, none⟩ (.int .i64 (max (fz - 1) (-1)))).heap.size := Nat.le_trans hBz HB5.out.2.1.size
      have hC := HB5.out.1.assign hB0 b6 hV hrp
      have hB6 := HB5.out.1.below b6
      have hcl := b1.trans (HB5.out.2.1.trans hC.2.1)
      obtain ⟨_, _, _, _, _, _, _, u0, u1⟩ := hB6.val
      have u2 := hB6.c2
      have u3 := hB6.c3
      have v0 := hB6.fr 0
      have v1 := hB6.fr 1
      have v2 := hB6.fr 2
      have v3 := hB6.fr 3
      unfold set4 at hC hcl
      have hFF := hC.1.dev hcl.size (fun fp hd => flush_ok b S fp _ hd hl' hp (by omega))
      unfold refCells
      generalize (S.spent.flush).lost = l2 at hFF hcl ⊢
      generalize (S.spent.flush).med.length = n2 at hFF hcl ⊢
      generalize fuseV (S.spent.flush) = q2 at hFF hcl ⊢
      have HCL := Lib.hid hcl
      clear hC hB6 hV hrp hcl p0 p1 p2 p3 f0 f1 f2 f3
      go_wp2_with fail
      refine hFF.mono ?_
      rintro e w8 ⟨rfl, hB8, b8, _⟩
      (try dsimp only)
      go_wp2
      go_meet
      exact ⟨_, hB8.free, by simp [Dv.flush, Dv.spent, HMED.out], by simp [Dv.flush], HCL.out.trans b8⟩
    · have hp' : S.pass = false := by simpa using hp
      have hz : fuseV S = 0 := by
        unfold fuseV; unfold Dv.pass at hp'
        cases hfu : S.fused with
        | true => rw [hfu] at hp'; simp at hp'; simp; omega
        | false => rw [hfu] at hp'; simp at hp'
      rw [hz] at p3
      have hF := HB1.out.dev hBz (fun fp hd => flush_fuse b S fp wx hd hl' hp')
      clear H hr
      go_wp2_with fail
      refine hF.mono ?_
      rintro e w4 ⟨rfl, hB4, b4, _⟩
      (try dsimp only)
      go_wp2
      go_meet
      exact ⟨S, hB4.free, HMED.out, by omega, b1.trans b4⟩
end Go.Proofs.Ytmkheikllbjcbaa
