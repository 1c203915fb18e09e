/-
  LedgerCounts: a ledger behind one act more: region 5 by itself.
-/
import Derived.Test.YtjbdofjheeljkaaLdgPlayW
import Derived.Test.YtjbdofjheeljkaaLdgRun5W
import Derived.Test.YtjbdofjheeljkaaGrowQ
import Derived.Deep.DeepCutAuto
namespace Go.Proofs.Ytjbdofjheeljkaa
open Go.RowKit
open Ldg (De Le Rd Rl actL runL aN)

set_option linter.unusedVariables false in
set_option maxRecDepth 100000 in
set_option maxHeartbeats 6400000 in
theorem counts5 {a0 : Option Addr} {cap0 : Nat} {l : List La} {qq : La} {w w3 : World} {X F N mr cr F2 N2 : Nat} {ar : Option Addr} {M : Rl} {K : Act → World → Prop} {Q : Exit → Act → World → Prop}
    (HA : Hid (LasAt w a0 l)) (HOK : Hid (∀ p ∈ l, LaOk p)) (HOKQ : Hid (LaOk qq)) (hno : a0 = none → cap0 = 0) (hlen : l.length ≤ 100) (HM : Hid (runL (l ++ [qq]) = M)) (HMO : Hid M.Ok) (HF2 : Hid (M.first = F2)) (HN2 : Hid (M.next = N2))
    (HB : Hid (Below w.heap.size w w3)) (HMB : Hid (w3.heap[w.heap.size]? = some (.cells #[.int .i64 qq.op, .int .i64 qq.nm, .int .i64 qq.sq, .int .i64 qq.kd] 36 (0, 0))))
    (HK : Hid (∀ (Y : Nat) (a : Option Addr) (m c : Nat) (w' : World) (v27 v28 v29 v30 v31 v32 v33 : Value), Hid (LBox w' Y M.abs F2 N2 a m c) → Hid (Below w3.heap.size w3 w') →
      K ⟨#[Value.slice a0 l.length cap0, Value.agg #[Value.int IntKind.i64 qq.op, Value.int IntKind.i64 qq.nm, Value.int IntKind.i64 qq.sq, Value.int IntKind.i64 qq.kd], undef, Value.pointer (some ⟨w.heap.size, 0, none⟩), Value.bool false, Value.bool true, Value.pointer (some ⟨X, 0, none⟩), Value.pointer (some ⟨Y, 0, none⟩), undef, undef, undef, undef, undef, undef, undef, undef, Value.bool true, Value.bool true, Value.bool false, Value.bool false, Value.slice a0 l.length cap0, Value.int IntKind.i64 (l.length : Int), Value.bool (decide (100 < (l.length : Int))), Value.bool (decide (100 < (l.length : Int))), undef, Value.slice a0 l.length cap0, Value.agg #[Value.int IntKind.u64 (F : Int), Value.int IntKind.u64 (N : Int), Value.slice ar mr cr], v27, v28, v29, v30, v31, v32, v33, undef, undef, undef, undef, undef, undef, undef, undef, undef, undef, undef, undef, undef, undef, undef, undef, undef, undef, undef, undef, undef, undef, undef, undef, undef, undef, undef, undef, undef, undef, undef, undef, undef, undef, undef, undef, undef, undef, undef, undef, undef, undef, undef, undef, undef, undef, undef, undef, undef, undef, undef, undef, undef, undef, undef, undef, undef, undef, undef, undef, undef, undef, undef, undef, undef, undef, undef, undef, undef, undef, undef, undef, undef, undef, undef, undef, undef, undef, undef, undef, undef, undef, undef, undef, undef, undef, undef, undef, undef, undef, undef, undef, undef, undef, undef, undef, undef, undef, undef, undef, undef, undef, undef, undef, undef, undef, undef, undef, undef, undef, undef, undef, undef, undef, undef, undef, undef, undef, undef, undef, undef, undef, undef, undef, undef, undef, undef, undef, undef, undef, undef, undef, undef, undef, undef, undef, undef, undef, undef, undef, undef, undef, undef, undef, undef, undef, undef, undef, undef, undef, undef, undef, undef, undef, undef, undef, undef, undef, undef, undef, undef, undef, undef, undef, undef, undef, undef, undef, undef, undef, undef, undef, undef, undef], []⟩ w')) :
    Code.wp Try.prog (Code.region 5
      #[{ dst := some 27, op := Op.buildSlice 22 0 #[], type := 22, pos := "law.go:132", after := #[], guard := none },
      { dst := some 28, op := Op.move (Operand.tmp 0), type := 22, pos := "law.go:132", after := #[], guard := none },
      { dst := some 29, op := Op.call { callee := Callee.builtin Builtin.append, args := #[Operand.tmp 27, Operand.tmp 28], argTypes := #[22, 22] }, type := 22, pos := "law.go:132", after := #[⟨0, Ground.data⟩, ⟨1, Ground.data⟩], guard := none },
      { dst := some 30, op := Op.load 36 (Operand.tmp 3), type := 36, pos := "law.go:132", after := #[], guard := none },
      { dst := some 31, op := Op.buildSlice 22 1 #[(0, Operand.tmp 30)], type := 22, pos := "law.go:132", after := #[⟨3, Ground.data⟩], guard := none },
      { dst := some 32, op := Op.call { callee := Callee.builtin Builtin.append, args := #[Operand.tmp 29, Operand.tmp 31], argTypes := #[22, 22] }, type := 22, pos := "law.go:132", after := #[⟨2, Ground.data⟩, ⟨4, Ground.data⟩, ⟨2, Ground.chain⟩], guard := none },
      { dst := some 33, op := Op.call { callee := Callee.value (Operand.func 29), args := #[Operand.tmp 32], argTypes := #[22] }, type := 27, pos := "law.go:132", after := #[⟨5, Ground.data⟩, ⟨5, Ground.chain⟩], guard := none },
      { dst := some 7, op := Op.alloc 27, type := 0, pos := "law.go:132", after := #[], guard := none },
      { dst := none, op := Op.store 27 (Operand.tmp 7) (Operand.tmp 33), type := 0, pos := "law.go:132", after := #[⟨7, Ground.data⟩, ⟨6, Ground.data⟩, ⟨6, Ground.chain⟩, ⟨0, Ground.phase⟩, ⟨1, Ground.phase⟩, ⟨2, Ground.phase⟩, ⟨3, Ground.phase⟩, ⟨4, Ground.phase⟩, ⟨5, Ground.phase⟩, ⟨6, Ground.phase⟩, ⟨7, Ground.phase⟩], guard := none }]
      true) (Exit.then K Q)
      ⟨#[Value.slice a0 l.length cap0, Value.agg #[Value.int IntKind.i64 qq.op, Value.int IntKind.i64 qq.nm, Value.int IntKind.i64 qq.sq, Value.int IntKind.i64 qq.kd], undef, Value.pointer (some ⟨w.heap.size, 0, none⟩), Value.bool false, Value.bool true, Value.pointer (some ⟨X, 0, none⟩), undef, undef, undef, undef, undef, undef, undef, undef, undef, Value.bool true, Value.bool true, Value.bool false, Value.bool false, Value.slice a0 l.length cap0, Value.int IntKind.i64 (l.length : Int), Value.bool (decide (100 < (l.length : Int))), Value.bool (decide (100 < (l.length : Int))), undef, Value.slice a0 l.length cap0, Value.agg #[Value.int IntKind.u64 (F : Int), Value.int IntKind.u64 (N : Int), Value.slice ar mr cr], undef, undef, undef, undef, undef, undef, undef, undef, undef, undef, undef, undef, undef, undef, undef, undef, undef, undef, undef, undef, undef, undef, undef, undef, undef, undef, undef, undef, undef, undef, undef, undef, undef, undef, undef, undef, undef, undef, undef, undef, undef, undef, undef, undef, undef, undef, undef, undef, undef, undef, undef, undef, undef, undef, undef, undef, undef, undef, undef, undef, undef, undef, undef, undef, undef, undef, undef, undef, undef, undef, undef, undef, undef, undef, undef, undef, undef, undef, undef, undef, undef, undef, undef, undef, undef, undef, undef, undef, undef, undef, undef, undef, undef, undef, undef, undef, undef, undef, undef, undef, undef, undef, undef, undef, undef, undef, undef, undef, undef, undef, undef, undef, undef, undef, undef, undef, undef, undef, undef, undef, undef, undef, undef, undef, undef, undef, undef, undef, undef, undef, undef, undef, undef, undef, undef, undef, undef, undef, undef, undef, undef, undef, undef, undef, undef, undef, undef, undef, undef, undef, undef, undef, undef, undef, undef, undef, undef, undef, undef, undef, undef, undef, undef, undef, undef, undef, undef, undef, undef, undef, undef, undef, undef, undef, undef, undef, undef, undef, undef, undef, undef], []⟩ w3 := by
  have m0 := lcell_of HMB.out 0 rfl
  have m1 := lcell_of HMB.out 1 rfl
  have m2 := lcell_of HMB.out 2 rfl
  have m3 := lcell_of HMB.out 3 rfl
  have HA3 := hide (HA.out.below HB.out)
  have hok5 : ∀ p ∈ l ++ [qq], LaOk p := fun p hp => by
    rcases List.mem_append.1 hp with h | h
    · exact HOK.out p h
    · rw [List.mem_singleton.1 h]; exact HOKQ.out
  have hn5 : (l ++ [qq]).length = l.length + 1 := by rw [List.length_append]; rfl
  have hm5 := HM.out
  obtain ⟨l5, hl5⟩ : ∃ x, l ++ [qq] = x := ⟨_, rfl⟩
  rw [hl5] at hok5 hn5 hm5
  have HOK5 := hide hok5
  have HN5 := hide hn5
  have HM5 := hide hm5
  have HE5 := hide hl5
  clear hok5 hn5 hm5 hl5
  have hwl : w.heap.size < w3.heap.size := (Array.getElem?_eq_some_iff.1 HMB.out).1
  go_wp2_with fail
  refine wp_region_growQ (fun b => b < w3.heap.size) 9 rfl (by kernel_rfl) ?_
  intro wq hbq
  have HR5 := hide (Run5.start qq hbq)
  have inh : Nonempty (GrK (fun b => b < w3.heap.size) wq) := GrK.some _ wq
  have x0 := fun z : GrK (fun b => b < w3.heap.size) wq => z.cell (a := ⟨w.heap.size, 0, none⟩) hwl ((hbq.cell (p := ⟨w.heap.size, 0, none⟩) hwl).trans m0)
  have x1 := fun z : GrK (fun b => b < w3.heap.size) wq => z.cell (a := ⟨w.heap.size, 1, none⟩) hwl ((hbq.cell (p := ⟨w.heap.size, 1, none⟩) hwl).trans m1)
  have x2 := fun z : GrK (fun b => b < w3.heap.size) wq => z.cell (a := ⟨w.heap.size, 2, none⟩) hwl ((hbq.cell (p := ⟨w.heap.size, 2, none⟩) hwl).trans m2)
  have x3 := fun z : GrK (fun b => b < w3.heap.size) wq => z.cell (a := ⟨w.heap.size, 3, none⟩) hwl ((hbq.cell (p := ⟨w.heap.size, 3, none⟩) hwl).trans m3)
  refine growQ_plain [1, 3] 7 #[false, true, false, true, false, false, false, false, false] rfl (by kernel_rfl) (by kernel_rfl) ?_
  simp only [getLK, pickLK]
  repeat (go_big_quiet_step (fail))
  refine wpQuiet_nil ?_
  clear x0 x1 x2 x3 m0 m1 m2 m3 inh hbq
  refine growQ_three 0 4 7 _ _ _ 6 rfl rfl rfl rfl (by kernel_rfl) ?_ ?_ ?_
  · go_wp2
    have hr := HR5.out.empty
    have hk := HR5.out.kept (bnew wq (.cells #[] 36))
    refine OnToQ.mk hk (Sub.refl _) ?_
    clear hk
    obtain ⟨g0, hg0⟩ : ∃ y, wq.heap.size = y := ⟨_, rfl⟩
    obtain ⟨w1s, hW⟩ : ∃ z, wq.alloc (.cells #[] 36) = z := ⟨_, rfl⟩
    rw [hg0, hW] at hr
    try rw [hg0]
    try rw [hW]
    have HR5 := hide hr
    clear hr hW hg0
    refine growQ_three 2 4 7 _ _ _ 5 rfl rfl rfl rfl (by kernel_rfl) ?_ ?_ ?_
    · obtain ⟨v29, w2s, hrun, hr, hk⟩ := HR5.out.app (n := l.length) (HA3.out.below HR5.out.bel) hno rfl (by simp only [List.length_nil]; omega) 22
      rw [List.nil_append] at hr
      refine Ldg.wpList_app_run rfl _ _ _ _ rfl rfl rfl hrun ?_
      go_wp2
      refine OnToQ.mk hk (Sub.refl _) ?_
      have HR5 := hide hr
      clear hr hrun hk
      refine growQ_two 4 7 _ _ 4 rfl rfl rfl (by kernel_rfl) ?_ ?_
      · go_wp2
        have hr := HR5.out.slice
        have hk := HR5.out.kept (bnew w2s (.cells #[.int .i64 qq.op, .int .i64 qq.nm, .int .i64 qq.sq, .int .i64 qq.kd] 36))
        refine OnToQ.mk hk (Sub.refl _) ?_
        clear hk
        obtain ⟨b4, hb4⟩ : ∃ y, w2s.heap.size = y := ⟨_, rfl⟩
        obtain ⟨w3s, hW⟩ : ∃ z, w2s.alloc (.cells #[.int .i64 qq.op, .int .i64 qq.nm, .int .i64 qq.sq, .int .i64 qq.kd] 36) = z := ⟨_, rfl⟩
        rw [hb4, hW] at hr
        try rw [hb4]
        try rw [hW]
        have HR5 := hide hr
        clear hr hW hb4
        refine growQ_two 5 7 _ _ 3 rfl rfl rfl (by kernel_rfl) ?_ ?_
        · obtain ⟨v32, w4s, hrun, hr, hk⟩ := HR5.out.app4 (by omega) 22
          refine Ldg.wpList_app_run rfl _ _ _ _ rfl rfl rfl hrun ?_
          go_wp2
          refine OnToQ.mk hk (Sub.refl _) ?_
          rw [HE5.out] at hr
          have HR5 := hide hr
          clear hr hrun hk
          obtain ⟨a5, c5, rfl, hc5, hl5⟩ := HR5.out.own.view
          clear hc5 hl5
          refine growQ_two 6 7 _ _ 2 rfl rfl rfl (by kernel_rfl) ?_ ?_
          · go_wp2_with fail
            refine (run_any c5 (las5 HR5.out.own) HOK5.out (by rw [HN5.out]; omega)).mono ?_
            rintro e w5s ⟨aM, mM, cM, rfl, hlm, hbm⟩
            rw [HM5.out] at hlm ⊢
            rw [HF2.out, HN2.out] at hlm ⊢
            have hk := HR5.out.kept hbm
            have HR5 := hide (HR5.out.then hbm)
            have HLL := hide hlm
            clear hlm hbm
            go_wp2
            refine OnToQ.mk hk (Sub.refl _) ?_
            clear hk
            refine growQ_one 7 _ 1 rfl rfl (by kernel_rfl) ?_
            · go_wp2
              have hr := HR5.out.box
              have hk := HR5.out.kept (bnew w5s (.cells #[.int .u64 0, .int .u64 0, .slice none 0 0] 27))
              have HLL := hide (HLL.out.below (bnew w5s (.cells #[.int .u64 0, .int .u64 0, .slice none 0 0] 27)))
              refine OnToQ.mk hk (Sub.refl _) ?_
              clear hk
              obtain ⟨b7, hb7⟩ : ∃ y, w5s.heap.size = y := ⟨_, rfl⟩
              obtain ⟨w6s, hW⟩ : ∃ z, w5s.alloc (.cells #[.int .u64 0, .int .u64 0, .slice none 0 0] 27) = z := ⟨_, rfl⟩
              rw [hb7, hW] at hr
              rw [hW] at HLL
              try rw [hb7]
              try rw [hW]
              have HR5 := hide hr
              clear hr hW hb7
              have hz := (HR5.out.bx b7 rfl).2.1
              have hb7 := (HR5.out.bx b7 rfl).1
              have z0 := lcell_of hz 0 rfl
              have z1 := lcell_of hz 1 rfl
              have z2 := lcell_of hz 2 rfl
              have zf := lfrozen_of hz
              have hfl := LBox.fill (L := M.abs) hz HLL.out (above_pos HMO.out)
              have k1 := kept3 w6s b7 (.int .u64 (F2 : Int)) (.int .u64 (N2 : Int)) (.slice aM mM cM)
              obtain ⟨wt, hwt⟩ : ∃ z, ((w6s.setCell ⟨b7, 0, none⟩ (.int .u64 (F2 : Int))).setCell ⟨b7, 1, none⟩ (.int .u64 (N2 : Int))).setCell ⟨b7, 2, none⟩ (.slice aM mM cM) = z := ⟨_, rfl⟩
              rw [hwt] at hfl k1
              have HFL := hide hfl
              have HBE := hide (HR5.out.bel.trans (k1.bel (fun b hb => by omega)))
              clear hfl hz
              refine growQ_one 8 _ 0 rfl rfl (by kernel_rfl) ?_
              go_wp2
              try rw [hwt]
              refine OnToQ.mk (k1.mono (fun b hb => by omega)) (Sub.refl _) ?_
              clear z0 z1 z2 zf k1 hwt
              refine growQ_end (by kernel_rfl) (by kernel_rfl) ?_
              go_wp2
              exact HK.out _ _ _ _ _ _ _ _ _ _ _ _ HFL HBE
          · go_wp2
            have hr := HR5.out.box
            have hk := HR5.out.kept (bnew w4s (.cells #[.int .u64 0, .int .u64 0, .slice none 0 0] 27))
            refine OnToQ.mk hk (Sub.refl _) ?_
            clear hk
            obtain ⟨b7, hb7⟩ : ∃ y, w4s.heap.size = y := ⟨_, rfl⟩
            obtain ⟨w7s, hW⟩ : ∃ z, w4s.alloc (.cells #[.int .u64 0, .int .u64 0, .slice none 0 0] 27) = z := ⟨_, rfl⟩
            rw [hb7, hW] at hr
            try rw [hb7]
            try rw [hW]
            have HR5 := hide hr
            clear hr hW hb7
            refine growQ_one 6 _ 1 rfl rfl (by kernel_rfl) ?_
            · go_wp2_with fail
              refine (run_any c5 (las5 HR5.out.own) HOK5.out (by rw [HN5.out]; omega)).mono ?_
              rintro e w8s ⟨aM, mM, cM, rfl, hlm, hbm⟩
              rw [HM5.out] at hlm ⊢
              rw [HF2.out, HN2.out] at hlm ⊢
              have hk := HR5.out.kept hbm
              have HR5 := hide (HR5.out.then hbm)
              have HLL := hide hlm
              clear hlm hbm
              go_wp2
              refine OnToQ.mk hk (Sub.refl _) ?_
              clear hk
              have hz := (HR5.out.bx b7 rfl).2.1
              have hb7 := (HR5.out.bx b7 rfl).1
              have z0 := lcell_of hz 0 rfl
              have z1 := lcell_of hz 1 rfl
              have z2 := lcell_of hz 2 rfl
              have zf := lfrozen_of hz
              have hfl := LBox.fill (L := M.abs) hz HLL.out (above_pos HMO.out)
              have k1 := kept3 w8s b7 (.int .u64 (F2 : Int)) (.int .u64 (N2 : Int)) (.slice aM mM cM)
              obtain ⟨wt, hwt⟩ : ∃ z, ((w8s.setCell ⟨b7, 0, none⟩ (.int .u64 (F2 : Int))).setCell ⟨b7, 1, none⟩ (.int .u64 (N2 : Int))).setCell ⟨b7, 2, none⟩ (.slice aM mM cM) = z := ⟨_, rfl⟩
              rw [hwt] at hfl k1
              have HFL := hide hfl
              have HBE := hide (HR5.out.bel.trans (k1.bel (fun b hb => by omega)))
              clear hfl hz
              refine growQ_one 8 _ 0 rfl rfl (by kernel_rfl) ?_
              go_wp2
              try rw [hwt]
              refine OnToQ.mk (k1.mono (fun b hb => by omega)) (Sub.refl _) ?_
              clear z0 z1 z2 zf k1 hwt
              refine growQ_end (by kernel_rfl) (by kernel_rfl) ?_
              go_wp2
              exact HK.out _ _ _ _ _ _ _ _ _ _ _ _ HFL HBE
        · go_wp2
          have hr := HR5.out.box
          have hk := HR5.out.kept (bnew w3s (.cells #[.int .u64 0, .int .u64 0, .slice none 0 0] 27))
          refine OnToQ.mk hk (Sub.refl _) ?_
          clear hk
          obtain ⟨b7, hb7⟩ : ∃ y, w3s.heap.size = y := ⟨_, rfl⟩
          obtain ⟨w9s, hW⟩ : ∃ z, w3s.alloc (.cells #[.int .u64 0, .int .u64 0, .slice none 0 0] 27) = z := ⟨_, rfl⟩
          rw [hb7, hW] at hr
          try rw [hb7]
          try rw [hW]
          have HR5 := hide hr
          clear hr hW hb7
          refine growQ_one 5 _ 2 rfl rfl (by kernel_rfl) ?_
          · obtain ⟨v32, w10s, hrun, hr, hk⟩ := HR5.out.app4 (by omega) 22
            refine Ldg.wpList_app_run rfl _ _ _ _ rfl rfl rfl hrun ?_
            go_wp2
            refine OnToQ.mk hk (Sub.refl _) ?_
            rw [HE5.out] at hr
            have HR5 := hide hr
            clear hr hrun hk
            obtain ⟨a5, c5, rfl, hc5, hl5⟩ := HR5.out.own.view
            clear hc5 hl5
            refine growQ_one 6 _ 1 rfl rfl (by kernel_rfl) ?_
            · go_wp2_with fail
              refine (run_any c5 (las5 HR5.out.own) HOK5.out (by rw [HN5.out]; omega)).mono ?_
              rintro e w11s ⟨aM, mM, cM, rfl, hlm, hbm⟩
              rw [HM5.out] at hlm ⊢
              rw [HF2.out, HN2.out] at hlm ⊢
              have hk := HR5.out.kept hbm
              have HR5 := hide (HR5.out.then hbm)
              have HLL := hide hlm
              clear hlm hbm
              go_wp2
              refine OnToQ.mk hk (Sub.refl _) ?_
              clear hk
              have hz := (HR5.out.bx b7 rfl).2.1
              have hb7 := (HR5.out.bx b7 rfl).1
              have z0 := lcell_of hz 0 rfl
              have z1 := lcell_of hz 1 rfl
              have z2 := lcell_of hz 2 rfl
              have zf := lfrozen_of hz
              have hfl := LBox.fill (L := M.abs) hz HLL.out (above_pos HMO.out)
              have k1 := kept3 w11s b7 (.int .u64 (F2 : Int)) (.int .u64 (N2 : Int)) (.slice aM mM cM)
              obtain ⟨wt, hwt⟩ : ∃ z, ((w11s.setCell ⟨b7, 0, none⟩ (.int .u64 (F2 : Int))).setCell ⟨b7, 1, none⟩ (.int .u64 (N2 : Int))).setCell ⟨b7, 2, none⟩ (.slice aM mM cM) = z := ⟨_, rfl⟩
              rw [hwt] at hfl k1
              have HFL := hide hfl
              have HBE := hide (HR5.out.bel.trans (k1.bel (fun b hb => by omega)))
              clear hfl hz
              refine growQ_one 8 _ 0 rfl rfl (by kernel_rfl) ?_
              go_wp2
              try rw [hwt]
              refine OnToQ.mk (k1.mono (fun b hb => by omega)) (Sub.refl _) ?_
              clear z0 z1 z2 zf k1 hwt
              refine growQ_end (by kernel_rfl) (by kernel_rfl) ?_
              go_wp2
              exact HK.out _ _ _ _ _ _ _ _ _ _ _ _ HFL HBE
      · go_wp2
        have hr := HR5.out.box
        have hk := HR5.out.kept (bnew w2s (.cells #[.int .u64 0, .int .u64 0, .slice none 0 0] 27))
        refine OnToQ.mk hk (Sub.refl _) ?_
        clear hk
        obtain ⟨b7, hb7⟩ : ∃ y, w2s.heap.size = y := ⟨_, rfl⟩
        obtain ⟨w12s, hW⟩ : ∃ z, w2s.alloc (.cells #[.int .u64 0, .int .u64 0, .slice none 0 0] 27) = z := ⟨_, rfl⟩
        rw [hb7, hW] at hr
        try rw [hb7]
        try rw [hW]
        have HR5 := hide hr
        clear hr hW hb7
        refine growQ_one 4 _ 3 rfl rfl (by kernel_rfl) ?_
        · go_wp2
          have hr := HR5.out.slice
          have hk := HR5.out.kept (bnew w12s (.cells #[.int .i64 qq.op, .int .i64 qq.nm, .int .i64 qq.sq, .int .i64 qq.kd] 36))
          refine OnToQ.mk hk (Sub.refl _) ?_
          clear hk
          obtain ⟨b4, hb4⟩ : ∃ y, w12s.heap.size = y := ⟨_, rfl⟩
          obtain ⟨w13s, hW⟩ : ∃ z, w12s.alloc (.cells #[.int .i64 qq.op, .int .i64 qq.nm, .int .i64 qq.sq, .int .i64 qq.kd] 36) = z := ⟨_, rfl⟩
          rw [hb4, hW] at hr
          try rw [hb4]
          try rw [hW]
          have HR5 := hide hr
          clear hr hW hb4
          refine growQ_one 5 _ 2 rfl rfl (by kernel_rfl) ?_
          · obtain ⟨v32, w14s, hrun, hr, hk⟩ := HR5.out.app4 (by omega) 22
            refine Ldg.wpList_app_run rfl _ _ _ _ rfl rfl rfl hrun ?_
            go_wp2
            refine OnToQ.mk hk (Sub.refl _) ?_
            rw [HE5.out] at hr
            have HR5 := hide hr
            clear hr hrun hk
            obtain ⟨a5, c5, rfl, hc5, hl5⟩ := HR5.out.own.view
            clear hc5 hl5
            refine growQ_one 6 _ 1 rfl rfl (by kernel_rfl) ?_
            · go_wp2_with fail
              refine (run_any c5 (las5 HR5.out.own) HOK5.out (by rw [HN5.out]; omega)).mono ?_
              rintro e w15s ⟨aM, mM, cM, rfl, hlm, hbm⟩
              rw [HM5.out] at hlm ⊢
              rw [HF2.out, HN2.out] at hlm ⊢
              have hk := HR5.out.kept hbm
              have HR5 := hide (HR5.out.then hbm)
              have HLL := hide hlm
              clear hlm hbm
              go_wp2
              refine OnToQ.mk hk (Sub.refl _) ?_
              clear hk
              have hz := (HR5.out.bx b7 rfl).2.1
              have hb7 := (HR5.out.bx b7 rfl).1
              have z0 := lcell_of hz 0 rfl
              have z1 := lcell_of hz 1 rfl
              have z2 := lcell_of hz 2 rfl
              have zf := lfrozen_of hz
              have hfl := LBox.fill (L := M.abs) hz HLL.out (above_pos HMO.out)
              have k1 := kept3 w15s b7 (.int .u64 (F2 : Int)) (.int .u64 (N2 : Int)) (.slice aM mM cM)
              obtain ⟨wt, hwt⟩ : ∃ z, ((w15s.setCell ⟨b7, 0, none⟩ (.int .u64 (F2 : Int))).setCell ⟨b7, 1, none⟩ (.int .u64 (N2 : Int))).setCell ⟨b7, 2, none⟩ (.slice aM mM cM) = z := ⟨_, rfl⟩
              rw [hwt] at hfl k1
              have HFL := hide hfl
              have HBE := hide (HR5.out.bel.trans (k1.bel (fun b hb => by omega)))
              clear hfl hz
              refine growQ_one 8 _ 0 rfl rfl (by kernel_rfl) ?_
              go_wp2
              try rw [hwt]
              refine OnToQ.mk (k1.mono (fun b hb => by omega)) (Sub.refl _) ?_
              clear z0 z1 z2 zf k1 hwt
              refine growQ_end (by kernel_rfl) (by kernel_rfl) ?_
              go_wp2
              exact HK.out _ _ _ _ _ _ _ _ _ _ _ _ HFL HBE
    · go_wp2
      have hr := HR5.out.slice
      have hk := HR5.out.kept (bnew w1s (.cells #[.int .i64 qq.op, .int .i64 qq.nm, .int .i64 qq.sq, .int .i64 qq.kd] 36))
      refine OnToQ.mk hk (Sub.refl _) ?_
      clear hk
      obtain ⟨b4, hb4⟩ : ∃ y, w1s.heap.size = y := ⟨_, rfl⟩
      obtain ⟨w16s, hW⟩ : ∃ z, w1s.alloc (.cells #[.int .i64 qq.op, .int .i64 qq.nm, .int .i64 qq.sq, .int .i64 qq.kd] 36) = z := ⟨_, rfl⟩
      rw [hb4, hW] at hr
      try rw [hb4]
      try rw [hW]
      have HR5 := hide hr
      clear hr hW hb4
      refine growQ_two 2 7 _ _ 4 rfl rfl rfl (by kernel_rfl) ?_ ?_
      · obtain ⟨v29, w17s, hrun, hr, hk⟩ := HR5.out.app (n := l.length) (HA3.out.below HR5.out.bel) hno rfl (by simp only [List.length_nil]; omega) 22
        rw [List.nil_append] at hr
        refine Ldg.wpList_app_run rfl _ _ _ _ rfl rfl rfl hrun ?_
        go_wp2
        refine OnToQ.mk hk (Sub.refl _) ?_
        have HR5 := hide hr
        clear hr hrun hk
        refine growQ_two 5 7 _ _ 3 rfl rfl rfl (by kernel_rfl) ?_ ?_
        · obtain ⟨v32, w18s, hrun, hr, hk⟩ := HR5.out.app4 (by omega) 22
          refine Ldg.wpList_app_run rfl _ _ _ _ rfl rfl rfl hrun ?_
          go_wp2
          refine OnToQ.mk hk (Sub.refl _) ?_
          rw [HE5.out] at hr
          have HR5 := hide hr
          clear hr hrun hk
          obtain ⟨a5, c5, rfl, hc5, hl5⟩ := HR5.out.own.view
          clear hc5 hl5
          refine growQ_two 6 7 _ _ 2 rfl rfl rfl (by kernel_rfl) ?_ ?_
          · go_wp2_with fail
            refine (run_any c5 (las5 HR5.out.own) HOK5.out (by rw [HN5.out]; omega)).mono ?_
            rintro e w19s ⟨aM, mM, cM, rfl, hlm, hbm⟩
            rw [HM5.out] at hlm ⊢
            rw [HF2.out, HN2.out] at hlm ⊢
            have hk := HR5.out.kept hbm
            have HR5 := hide (HR5.out.then hbm)
            have HLL := hide hlm
            clear hlm hbm
            go_wp2
            refine OnToQ.mk hk (Sub.refl _) ?_
            clear hk
            refine growQ_one 7 _ 1 rfl rfl (by kernel_rfl) ?_
            · go_wp2
              have hr := HR5.out.box
              have hk := HR5.out.kept (bnew w19s (.cells #[.int .u64 0, .int .u64 0, .slice none 0 0] 27))
              have HLL := hide (HLL.out.below (bnew w19s (.cells #[.int .u64 0, .int .u64 0, .slice none 0 0] 27)))
              refine OnToQ.mk hk (Sub.refl _) ?_
              clear hk
              obtain ⟨b7, hb7⟩ : ∃ y, w19s.heap.size = y := ⟨_, rfl⟩
              obtain ⟨w20s, hW⟩ : ∃ z, w19s.alloc (.cells #[.int .u64 0, .int .u64 0, .slice none 0 0] 27) = z := ⟨_, rfl⟩
              rw [hb7, hW] at hr
              rw [hW] at HLL
              try rw [hb7]
              try rw [hW]
              have HR5 := hide hr
              clear hr hW hb7
              have hz := (HR5.out.bx b7 rfl).2.1
              have hb7 := (HR5.out.bx b7 rfl).1
              have z0 := lcell_of hz 0 rfl
              have z1 := lcell_of hz 1 rfl
              have z2 := lcell_of hz 2 rfl
              have zf := lfrozen_of hz
              have hfl := LBox.fill (L := M.abs) hz HLL.out (above_pos HMO.out)
              have k1 := kept3 w20s b7 (.int .u64 (F2 : Int)) (.int .u64 (N2 : Int)) (.slice aM mM cM)
              obtain ⟨wt, hwt⟩ : ∃ z, ((w20s.setCell ⟨b7, 0, none⟩ (.int .u64 (F2 : Int))).setCell ⟨b7, 1, none⟩ (.int .u64 (N2 : Int))).setCell ⟨b7, 2, none⟩ (.slice aM mM cM) = z := ⟨_, rfl⟩
              rw [hwt] at hfl k1
              have HFL := hide hfl
              have HBE := hide (HR5.out.bel.trans (k1.bel (fun b hb => by omega)))
              clear hfl hz
              refine growQ_one 8 _ 0 rfl rfl (by kernel_rfl) ?_
              go_wp2
              try rw [hwt]
              refine OnToQ.mk (k1.mono (fun b hb => by omega)) (Sub.refl _) ?_
              clear z0 z1 z2 zf k1 hwt
              refine growQ_end (by kernel_rfl) (by kernel_rfl) ?_
              go_wp2
              exact HK.out _ _ _ _ _ _ _ _ _ _ _ _ HFL HBE
          · go_wp2
            have hr := HR5.out.box
            have hk := HR5.out.kept (bnew w18s (.cells #[.int .u64 0, .int .u64 0, .slice none 0 0] 27))
            refine OnToQ.mk hk (Sub.refl _) ?_
            clear hk
            obtain ⟨b7, hb7⟩ : ∃ y, w18s.heap.size = y := ⟨_, rfl⟩
            obtain ⟨w21s, hW⟩ : ∃ z, w18s.alloc (.cells #[.int .u64 0, .int .u64 0, .slice none 0 0] 27) = z := ⟨_, rfl⟩
            rw [hb7, hW] at hr
            try rw [hb7]
            try rw [hW]
            have HR5 := hide hr
            clear hr hW hb7
            refine growQ_one 6 _ 1 rfl rfl (by kernel_rfl) ?_
            · go_wp2_with fail
              refine (run_any c5 (las5 HR5.out.own) HOK5.out (by rw [HN5.out]; omega)).mono ?_
              rintro e w22s ⟨aM, mM, cM, rfl, hlm, hbm⟩
              rw [HM5.out] at hlm ⊢
              rw [HF2.out, HN2.out] at hlm ⊢
              have hk := HR5.out.kept hbm
              have HR5 := hide (HR5.out.then hbm)
              have HLL := hide hlm
              clear hlm hbm
              go_wp2
              refine OnToQ.mk hk (Sub.refl _) ?_
              clear hk
              have hz := (HR5.out.bx b7 rfl).2.1
              have hb7 := (HR5.out.bx b7 rfl).1
              have z0 := lcell_of hz 0 rfl
              have z1 := lcell_of hz 1 rfl
              have z2 := lcell_of hz 2 rfl
              have zf := lfrozen_of hz
              have hfl := LBox.fill (L := M.abs) hz HLL.out (above_pos HMO.out)
              have k1 := kept3 w22s b7 (.int .u64 (F2 : Int)) (.int .u64 (N2 : Int)) (.slice aM mM cM)
              obtain ⟨wt, hwt⟩ : ∃ z, ((w22s.setCell ⟨b7, 0, none⟩ (.int .u64 (F2 : Int))).setCell ⟨b7, 1, none⟩ (.int .u64 (N2 : Int))).setCell ⟨b7, 2, none⟩ (.slice aM mM cM) = z := ⟨_, rfl⟩
              rw [hwt] at hfl k1
              have HFL := hide hfl
              have HBE := hide (HR5.out.bel.trans (k1.bel (fun b hb => by omega)))
              clear hfl hz
              refine growQ_one 8 _ 0 rfl rfl (by kernel_rfl) ?_
              go_wp2
              try rw [hwt]
              refine OnToQ.mk (k1.mono (fun b hb => by omega)) (Sub.refl _) ?_
              clear z0 z1 z2 zf k1 hwt
              refine growQ_end (by kernel_rfl) (by kernel_rfl) ?_
              go_wp2
              exact HK.out _ _ _ _ _ _ _ _ _ _ _ _ HFL HBE
        · go_wp2
          have hr := HR5.out.box
          have hk := HR5.out.kept (bnew w17s (.cells #[.int .u64 0, .int .u64 0, .slice none 0 0] 27))
          refine OnToQ.mk hk (Sub.refl _) ?_
          clear hk
          obtain ⟨b7, hb7⟩ : ∃ y, w17s.heap.size = y := ⟨_, rfl⟩
          obtain ⟨w23s, hW⟩ : ∃ z, w17s.alloc (.cells #[.int .u64 0, .int .u64 0, .slice none 0 0] 27) = z := ⟨_, rfl⟩
          rw [hb7, hW] at hr
          try rw [hb7]
          try rw [hW]
          have HR5 := hide hr
          clear hr hW hb7
          refine growQ_one 5 _ 2 rfl rfl (by kernel_rfl) ?_
          · obtain ⟨v32, w24s, hrun, hr, hk⟩ := HR5.out.app4 (by omega) 22
            refine Ldg.wpList_app_run rfl _ _ _ _ rfl rfl rfl hrun ?_
            go_wp2
            refine OnToQ.mk hk (Sub.refl _) ?_
            rw [HE5.out] at hr
            have HR5 := hide hr
            clear hr hrun hk
            obtain ⟨a5, c5, rfl, hc5, hl5⟩ := HR5.out.own.view
            clear hc5 hl5
            refine growQ_one 6 _ 1 rfl rfl (by kernel_rfl) ?_
            · go_wp2_with fail
              refine (run_any c5 (las5 HR5.out.own) HOK5.out (by rw [HN5.out]; omega)).mono ?_
              rintro e w25s ⟨aM, mM, cM, rfl, hlm, hbm⟩
              rw [HM5.out] at hlm ⊢
              rw [HF2.out, HN2.out] at hlm ⊢
              have hk := HR5.out.kept hbm
              have HR5 := hide (HR5.out.then hbm)
              have HLL := hide hlm
              clear hlm hbm
              go_wp2
              refine OnToQ.mk hk (Sub.refl _) ?_
              clear hk
              have hz := (HR5.out.bx b7 rfl).2.1
              have hb7 := (HR5.out.bx b7 rfl).1
              have z0 := lcell_of hz 0 rfl
              have z1 := lcell_of hz 1 rfl
              have z2 := lcell_of hz 2 rfl
              have zf := lfrozen_of hz
              have hfl := LBox.fill (L := M.abs) hz HLL.out (above_pos HMO.out)
              have k1 := kept3 w25s b7 (.int .u64 (F2 : Int)) (.int .u64 (N2 : Int)) (.slice aM mM cM)
              obtain ⟨wt, hwt⟩ : ∃ z, ((w25s.setCell ⟨b7, 0, none⟩ (.int .u64 (F2 : Int))).setCell ⟨b7, 1, none⟩ (.int .u64 (N2 : Int))).setCell ⟨b7, 2, none⟩ (.slice aM mM cM) = z := ⟨_, rfl⟩
              rw [hwt] at hfl k1
              have HFL := hide hfl
              have HBE := hide (HR5.out.bel.trans (k1.bel (fun b hb => by omega)))
              clear hfl hz
              refine growQ_one 8 _ 0 rfl rfl (by kernel_rfl) ?_
              go_wp2
              try rw [hwt]
              refine OnToQ.mk (k1.mono (fun b hb => by omega)) (Sub.refl _) ?_
              clear z0 z1 z2 zf k1 hwt
              refine growQ_end (by kernel_rfl) (by kernel_rfl) ?_
              go_wp2
              exact HK.out _ _ _ _ _ _ _ _ _ _ _ _ HFL HBE
      · go_wp2
        have hr := HR5.out.box
        have hk := HR5.out.kept (bnew w16s (.cells #[.int .u64 0, .int .u64 0, .slice none 0 0] 27))
        refine OnToQ.mk hk (Sub.refl _) ?_
        clear hk
        obtain ⟨b7, hb7⟩ : ∃ y, w16s.heap.size = y := ⟨_, rfl⟩
        obtain ⟨w26s, hW⟩ : ∃ z, w16s.alloc (.cells #[.int .u64 0, .int .u64 0, .slice none 0 0] 27) = z := ⟨_, rfl⟩
        rw [hb7, hW] at hr
        try rw [hb7]
        try rw [hW]
        have HR5 := hide hr
        clear hr hW hb7
        refine growQ_one 2 _ 3 rfl rfl (by kernel_rfl) ?_
        · obtain ⟨v29, w27s, hrun, hr, hk⟩ := HR5.out.app (n := l.length) (HA3.out.below HR5.out.bel) hno rfl (by simp only [List.length_nil]; omega) 22
          rw [List.nil_append] at hr
          refine Ldg.wpList_app_run rfl _ _ _ _ rfl rfl rfl hrun ?_
          go_wp2
          refine OnToQ.mk hk (Sub.refl _) ?_
          have HR5 := hide hr
          clear hr hrun hk
          refine growQ_one 5 _ 2 rfl rfl (by kernel_rfl) ?_
          · obtain ⟨v32, w28s, hrun, hr, hk⟩ := HR5.out.app4 (by omega) 22
            refine Ldg.wpList_app_run rfl _ _ _ _ rfl rfl rfl hrun ?_
            go_wp2
            refine OnToQ.mk hk (Sub.refl _) ?_
            rw [HE5.out] at hr
            have HR5 := hide hr
            clear hr hrun hk
            obtain ⟨a5, c5, rfl, hc5, hl5⟩ := HR5.out.own.view
            clear hc5 hl5
            refine growQ_one 6 _ 1 rfl rfl (by kernel_rfl) ?_
            · go_wp2_with fail
              refine (run_any c5 (las5 HR5.out.own) HOK5.out (by rw [HN5.out]; omega)).mono ?_
              rintro e w29s ⟨aM, mM, cM, rfl, hlm, hbm⟩
              rw [HM5.out] at hlm ⊢
              rw [HF2.out, HN2.out] at hlm ⊢
              have hk := HR5.out.kept hbm
              have HR5 := hide (HR5.out.then hbm)
              have HLL := hide hlm
              clear hlm hbm
              go_wp2
              refine OnToQ.mk hk (Sub.refl _) ?_
              clear hk
              have hz := (HR5.out.bx b7 rfl).2.1
              have hb7 := (HR5.out.bx b7 rfl).1
              have z0 := lcell_of hz 0 rfl
              have z1 := lcell_of hz 1 rfl
              have z2 := lcell_of hz 2 rfl
              have zf := lfrozen_of hz
              have hfl := LBox.fill (L := M.abs) hz HLL.out (above_pos HMO.out)
              have k1 := kept3 w29s b7 (.int .u64 (F2 : Int)) (.int .u64 (N2 : Int)) (.slice aM mM cM)
              obtain ⟨wt, hwt⟩ : ∃ z, ((w29s.setCell ⟨b7, 0, none⟩ (.int .u64 (F2 : Int))).setCell ⟨b7, 1, none⟩ (.int .u64 (N2 : Int))).setCell ⟨b7, 2, none⟩ (.slice aM mM cM) = z := ⟨_, rfl⟩
              rw [hwt] at hfl k1
              have HFL := hide hfl
              have HBE := hide (HR5.out.bel.trans (k1.bel (fun b hb => by omega)))
              clear hfl hz
              refine growQ_one 8 _ 0 rfl rfl (by kernel_rfl) ?_
              go_wp2
              try rw [hwt]
              refine OnToQ.mk (k1.mono (fun b hb => by omega)) (Sub.refl _) ?_
              clear z0 z1 z2 zf k1 hwt
              refine growQ_end (by kernel_rfl) (by kernel_rfl) ?_
              go_wp2
              exact HK.out _ _ _ _ _ _ _ _ _ _ _ _ HFL HBE
    · go_wp2
      have hr := HR5.out.box
      have hk := HR5.out.kept (bnew w1s (.cells #[.int .u64 0, .int .u64 0, .slice none 0 0] 27))
      refine OnToQ.mk hk (Sub.refl _) ?_
      clear hk
      obtain ⟨b7, hb7⟩ : ∃ y, w1s.heap.size = y := ⟨_, rfl⟩
      obtain ⟨w30s, hW⟩ : ∃ z, w1s.alloc (.cells #[.int .u64 0, .int .u64 0, .slice none 0 0] 27) = z := ⟨_, rfl⟩
      rw [hb7, hW] at hr
      try rw [hb7]
      try rw [hW]
      have HR5 := hide hr
      clear hr hW hb7
      refine growQ_two 2 4 _ _ 4 rfl rfl rfl (by kernel_rfl) ?_ ?_
      · obtain ⟨v29, w31s, hrun, hr, hk⟩ := HR5.out.app (n := l.length) (HA3.out.below HR5.out.bel) hno rfl (by simp only [List.length_nil]; omega) 22
        rw [List.nil_append] at hr
        refine Ldg.wpList_app_run rfl _ _ _ _ rfl rfl rfl hrun ?_
        go_wp2
        refine OnToQ.mk hk (Sub.refl _) ?_
        have HR5 := hide hr
        clear hr hrun hk
        refine growQ_one 4 _ 3 rfl rfl (by kernel_rfl) ?_
        · go_wp2
          have hr := HR5.out.slice
          have hk := HR5.out.kept (bnew w31s (.cells #[.int .i64 qq.op, .int .i64 qq.nm, .int .i64 qq.sq, .int .i64 qq.kd] 36))
          refine OnToQ.mk hk (Sub.refl _) ?_
          clear hk
          obtain ⟨b4, hb4⟩ : ∃ y, w31s.heap.size = y := ⟨_, rfl⟩
          obtain ⟨w32s, hW⟩ : ∃ z, w31s.alloc (.cells #[.int .i64 qq.op, .int .i64 qq.nm, .int .i64 qq.sq, .int .i64 qq.kd] 36) = z := ⟨_, rfl⟩
          rw [hb4, hW] at hr
          try rw [hb4]
          try rw [hW]
          have HR5 := hide hr
          clear hr hW hb4
          refine growQ_one 5 _ 2 rfl rfl (by kernel_rfl) ?_
          · obtain ⟨v32, w33s, hrun, hr, hk⟩ := HR5.out.app4 (by omega) 22
            refine Ldg.wpList_app_run rfl _ _ _ _ rfl rfl rfl hrun ?_
            go_wp2
            refine OnToQ.mk hk (Sub.refl _) ?_
            rw [HE5.out] at hr
            have HR5 := hide hr
            clear hr hrun hk
            obtain ⟨a5, c5, rfl, hc5, hl5⟩ := HR5.out.own.view
            clear hc5 hl5
            refine growQ_one 6 _ 1 rfl rfl (by kernel_rfl) ?_
            · go_wp2_with fail
              refine (run_any c5 (las5 HR5.out.own) HOK5.out (by rw [HN5.out]; omega)).mono ?_
              rintro e w34s ⟨aM, mM, cM, rfl, hlm, hbm⟩
              rw [HM5.out] at hlm ⊢
              rw [HF2.out, HN2.out] at hlm ⊢
              have hk := HR5.out.kept hbm
              have HR5 := hide (HR5.out.then hbm)
              have HLL := hide hlm
              clear hlm hbm
              go_wp2
              refine OnToQ.mk hk (Sub.refl _) ?_
              clear hk
              have hz := (HR5.out.bx b7 rfl).2.1
              have hb7 := (HR5.out.bx b7 rfl).1
              have z0 := lcell_of hz 0 rfl
              have z1 := lcell_of hz 1 rfl
              have z2 := lcell_of hz 2 rfl
              have zf := lfrozen_of hz
              have hfl := LBox.fill (L := M.abs) hz HLL.out (above_pos HMO.out)
              have k1 := kept3 w34s b7 (.int .u64 (F2 : Int)) (.int .u64 (N2 : Int)) (.slice aM mM cM)
              obtain ⟨wt, hwt⟩ : ∃ z, ((w34s.setCell ⟨b7, 0, none⟩ (.int .u64 (F2 : Int))).setCell ⟨b7, 1, none⟩ (.int .u64 (N2 : Int))).setCell ⟨b7, 2, none⟩ (.slice aM mM cM) = z := ⟨_, rfl⟩
              rw [hwt] at hfl k1
              have HFL := hide hfl
              have HBE := hide (HR5.out.bel.trans (k1.bel (fun b hb => by omega)))
              clear hfl hz
              refine growQ_one 8 _ 0 rfl rfl (by kernel_rfl) ?_
              go_wp2
              try rw [hwt]
              refine OnToQ.mk (k1.mono (fun b hb => by omega)) (Sub.refl _) ?_
              clear z0 z1 z2 zf k1 hwt
              refine growQ_end (by kernel_rfl) (by kernel_rfl) ?_
              go_wp2
              exact HK.out _ _ _ _ _ _ _ _ _ _ _ _ HFL HBE
      · go_wp2
        have hr := HR5.out.slice
        have hk := HR5.out.kept (bnew w30s (.cells #[.int .i64 qq.op, .int .i64 qq.nm, .int .i64 qq.sq, .int .i64 qq.kd] 36))
        refine OnToQ.mk hk (Sub.refl _) ?_
        clear hk
        obtain ⟨b4, hb4⟩ : ∃ y, w30s.heap.size = y := ⟨_, rfl⟩
        obtain ⟨w35s, hW⟩ : ∃ z, w30s.alloc (.cells #[.int .i64 qq.op, .int .i64 qq.nm, .int .i64 qq.sq, .int .i64 qq.kd] 36) = z := ⟨_, rfl⟩
        rw [hb4, hW] at hr
        try rw [hb4]
        try rw [hW]
        have HR5 := hide hr
        clear hr hW hb4
        refine growQ_one 2 _ 3 rfl rfl (by kernel_rfl) ?_
        · obtain ⟨v29, w36s, hrun, hr, hk⟩ := HR5.out.app (n := l.length) (HA3.out.below HR5.out.bel) hno rfl (by simp only [List.length_nil]; omega) 22
          rw [List.nil_append] at hr
          refine Ldg.wpList_app_run rfl _ _ _ _ rfl rfl rfl hrun ?_
          go_wp2
          refine OnToQ.mk hk (Sub.refl _) ?_
          have HR5 := hide hr
          clear hr hrun hk
          refine growQ_one 5 _ 2 rfl rfl (by kernel_rfl) ?_
          · obtain ⟨v32, w37s, hrun, hr, hk⟩ := HR5.out.app4 (by omega) 22
            refine Ldg.wpList_app_run rfl _ _ _ _ rfl rfl rfl hrun ?_
            go_wp2
            refine OnToQ.mk hk (Sub.refl _) ?_
            rw [HE5.out] at hr
            have HR5 := hide hr
            clear hr hrun hk
            obtain ⟨a5, c5, rfl, hc5, hl5⟩ := HR5.out.own.view
            clear hc5 hl5
            refine growQ_one 6 _ 1 rfl rfl (by kernel_rfl) ?_
            · go_wp2_with fail
              refine (run_any c5 (las5 HR5.out.own) HOK5.out (by rw [HN5.out]; omega)).mono ?_
              rintro e w38s ⟨aM, mM, cM, rfl, hlm, hbm⟩
              rw [HM5.out] at hlm ⊢
              rw [HF2.out, HN2.out] at hlm ⊢
              have hk := HR5.out.kept hbm
              have HR5 := hide (HR5.out.then hbm)
              have HLL := hide hlm
              clear hlm hbm
              go_wp2
              refine OnToQ.mk hk (Sub.refl _) ?_
              clear hk
              have hz := (HR5.out.bx b7 rfl).2.1
              have hb7 := (HR5.out.bx b7 rfl).1
              have z0 := lcell_of hz 0 rfl
              have z1 := lcell_of hz 1 rfl
              have z2 := lcell_of hz 2 rfl
              have zf := lfrozen_of hz
              have hfl := LBox.fill (L := M.abs) hz HLL.out (above_pos HMO.out)
              have k1 := kept3 w38s b7 (.int .u64 (F2 : Int)) (.int .u64 (N2 : Int)) (.slice aM mM cM)
              obtain ⟨wt, hwt⟩ : ∃ z, ((w38s.setCell ⟨b7, 0, none⟩ (.int .u64 (F2 : Int))).setCell ⟨b7, 1, none⟩ (.int .u64 (N2 : Int))).setCell ⟨b7, 2, none⟩ (.slice aM mM cM) = z := ⟨_, rfl⟩
              rw [hwt] at hfl k1
              have HFL := hide hfl
              have HBE := hide (HR5.out.bel.trans (k1.bel (fun b hb => by omega)))
              clear hfl hz
              refine growQ_one 8 _ 0 rfl rfl (by kernel_rfl) ?_
              go_wp2
              try rw [hwt]
              refine OnToQ.mk (k1.mono (fun b hb => by omega)) (Sub.refl _) ?_
              clear z0 z1 z2 zf k1 hwt
              refine growQ_end (by kernel_rfl) (by kernel_rfl) ?_
              go_wp2
              exact HK.out _ _ _ _ _ _ _ _ _ _ _ _ HFL HBE
  · go_wp2
    have hr := HR5.out.slice
    have hk := HR5.out.kept (bnew wq (.cells #[.int .i64 qq.op, .int .i64 qq.nm, .int .i64 qq.sq, .int .i64 qq.kd] 36))
    refine OnToQ.mk hk (Sub.refl _) ?_
    clear hk
    obtain ⟨b4, hb4⟩ : ∃ y, wq.heap.size = y := ⟨_, rfl⟩
    obtain ⟨w39s, hW⟩ : ∃ z, wq.alloc (.cells #[.int .i64 qq.op, .int .i64 qq.nm, .int .i64 qq.sq, .int .i64 qq.kd] 36) = z := ⟨_, rfl⟩
    rw [hb4, hW] at hr
    try rw [hb4]
    try rw [hW]
    have HR5 := hide hr
    clear hr hW hb4
    refine growQ_two 0 7 _ _ 5 rfl rfl rfl (by kernel_rfl) ?_ ?_
    · go_wp2
      have hr := HR5.out.empty
      have hk := HR5.out.kept (bnew w39s (.cells #[] 36))
      refine OnToQ.mk hk (Sub.refl _) ?_
      clear hk
      obtain ⟨g0, hg0⟩ : ∃ y, w39s.heap.size = y := ⟨_, rfl⟩
      obtain ⟨w40s, hW⟩ : ∃ z, w39s.alloc (.cells #[] 36) = z := ⟨_, rfl⟩
      rw [hg0, hW] at hr
      try rw [hg0]
      try rw [hW]
      have HR5 := hide hr
      clear hr hW hg0
      refine growQ_two 2 7 _ _ 4 rfl rfl rfl (by kernel_rfl) ?_ ?_
      · obtain ⟨v29, w41s, hrun, hr, hk⟩ := HR5.out.app (n := l.length) (HA3.out.below HR5.out.bel) hno rfl (by simp only [List.length_nil]; omega) 22
        rw [List.nil_append] at hr
        refine Ldg.wpList_app_run rfl _ _ _ _ rfl rfl rfl hrun ?_
        go_wp2
        refine OnToQ.mk hk (Sub.refl _) ?_
        have HR5 := hide hr
        clear hr hrun hk
        refine growQ_two 5 7 _ _ 3 rfl rfl rfl (by kernel_rfl) ?_ ?_
        · obtain ⟨v32, w42s, hrun, hr, hk⟩ := HR5.out.app4 (by omega) 22
          refine Ldg.wpList_app_run rfl _ _ _ _ rfl rfl rfl hrun ?_
          go_wp2
          refine OnToQ.mk hk (Sub.refl _) ?_
          rw [HE5.out] at hr
          have HR5 := hide hr
          clear hr hrun hk
          obtain ⟨a5, c5, rfl, hc5, hl5⟩ := HR5.out.own.view
          clear hc5 hl5
          refine growQ_two 6 7 _ _ 2 rfl rfl rfl (by kernel_rfl) ?_ ?_
          · go_wp2_with fail
            refine (run_any c5 (las5 HR5.out.own) HOK5.out (by rw [HN5.out]; omega)).mono ?_
            rintro e w43s ⟨aM, mM, cM, rfl, hlm, hbm⟩
            rw [HM5.out] at hlm ⊢
            rw [HF2.out, HN2.out] at hlm ⊢
            have hk := HR5.out.kept hbm
            have HR5 := hide (HR5.out.then hbm)
            have HLL := hide hlm
            clear hlm hbm
            go_wp2
            refine OnToQ.mk hk (Sub.refl _) ?_
            clear hk
            refine growQ_one 7 _ 1 rfl rfl (by kernel_rfl) ?_
            · go_wp2
              have hr := HR5.out.box
              have hk := HR5.out.kept (bnew w43s (.cells #[.int .u64 0, .int .u64 0, .slice none 0 0] 27))
              have HLL := hide (HLL.out.below (bnew w43s (.cells #[.int .u64 0, .int .u64 0, .slice none 0 0] 27)))
              refine OnToQ.mk hk (Sub.refl _) ?_
              clear hk
              obtain ⟨b7, hb7⟩ : ∃ y, w43s.heap.size = y := ⟨_, rfl⟩
              obtain ⟨w44s, hW⟩ : ∃ z, w43s.alloc (.cells #[.int .u64 0, .int .u64 0, .slice none 0 0] 27) = z := ⟨_, rfl⟩
              rw [hb7, hW] at hr
              rw [hW] at HLL
              try rw [hb7]
              try rw [hW]
              have HR5 := hide hr
              clear hr hW hb7
              have hz := (HR5.out.bx b7 rfl).2.1
              have hb7 := (HR5.out.bx b7 rfl).1
              have z0 := lcell_of hz 0 rfl
              have z1 := lcell_of hz 1 rfl
              have z2 := lcell_of hz 2 rfl
              have zf := lfrozen_of hz
              have hfl := LBox.fill (L := M.abs) hz HLL.out (above_pos HMO.out)
              have k1 := kept3 w44s b7 (.int .u64 (F2 : Int)) (.int .u64 (N2 : Int)) (.slice aM mM cM)
              obtain ⟨wt, hwt⟩ : ∃ z, ((w44s.setCell ⟨b7, 0, none⟩ (.int .u64 (F2 : Int))).setCell ⟨b7, 1, none⟩ (.int .u64 (N2 : Int))).setCell ⟨b7, 2, none⟩ (.slice aM mM cM) = z := ⟨_, rfl⟩
              rw [hwt] at hfl k1
              have HFL := hide hfl
              have HBE := hide (HR5.out.bel.trans (k1.bel (fun b hb => by omega)))
              clear hfl hz
              refine growQ_one 8 _ 0 rfl rfl (by kernel_rfl) ?_
              go_wp2
              try rw [hwt]
              refine OnToQ.mk (k1.mono (fun b hb => by omega)) (Sub.refl _) ?_
              clear z0 z1 z2 zf k1 hwt
              refine growQ_end (by kernel_rfl) (by kernel_rfl) ?_
              go_wp2
              exact HK.out _ _ _ _ _ _ _ _ _ _ _ _ HFL HBE
          · go_wp2
            have hr := HR5.out.box
            have hk := HR5.out.kept (bnew w42s (.cells #[.int .u64 0, .int .u64 0, .slice none 0 0] 27))
            refine OnToQ.mk hk (Sub.refl _) ?_
            clear hk
            obtain ⟨b7, hb7⟩ : ∃ y, w42s.heap.size = y := ⟨_, rfl⟩
            obtain ⟨w45s, hW⟩ : ∃ z, w42s.alloc (.cells #[.int .u64 0, .int .u64 0, .slice none 0 0] 27) = z := ⟨_, rfl⟩
            rw [hb7, hW] at hr
            try rw [hb7]
            try rw [hW]
            have HR5 := hide hr
            clear hr hW hb7
            refine growQ_one 6 _ 1 rfl rfl (by kernel_rfl) ?_
            · go_wp2_with fail
              refine (run_any c5 (las5 HR5.out.own) HOK5.out (by rw [HN5.out]; omega)).mono ?_
              rintro e w46s ⟨aM, mM, cM, rfl, hlm, hbm⟩
              rw [HM5.out] at hlm ⊢
              rw [HF2.out, HN2.out] at hlm ⊢
              have hk := HR5.out.kept hbm
              have HR5 := hide (HR5.out.then hbm)
              have HLL := hide hlm
              clear hlm hbm
              go_wp2
              refine OnToQ.mk hk (Sub.refl _) ?_
              clear hk
              have hz := (HR5.out.bx b7 rfl).2.1
              have hb7 := (HR5.out.bx b7 rfl).1
              have z0 := lcell_of hz 0 rfl
              have z1 := lcell_of hz 1 rfl
              have z2 := lcell_of hz 2 rfl
              have zf := lfrozen_of hz
              have hfl := LBox.fill (L := M.abs) hz HLL.out (above_pos HMO.out)
              have k1 := kept3 w46s b7 (.int .u64 (F2 : Int)) (.int .u64 (N2 : Int)) (.slice aM mM cM)
              obtain ⟨wt, hwt⟩ : ∃ z, ((w46s.setCell ⟨b7, 0, none⟩ (.int .u64 (F2 : Int))).setCell ⟨b7, 1, none⟩ (.int .u64 (N2 : Int))).setCell ⟨b7, 2, none⟩ (.slice aM mM cM) = z := ⟨_, rfl⟩
              rw [hwt] at hfl k1
              have HFL := hide hfl
              have HBE := hide (HR5.out.bel.trans (k1.bel (fun b hb => by omega)))
              clear hfl hz
              refine growQ_one 8 _ 0 rfl rfl (by kernel_rfl) ?_
              go_wp2
              try rw [hwt]
              refine OnToQ.mk (k1.mono (fun b hb => by omega)) (Sub.refl _) ?_
              clear z0 z1 z2 zf k1 hwt
              refine growQ_end (by kernel_rfl) (by kernel_rfl) ?_
              go_wp2
              exact HK.out _ _ _ _ _ _ _ _ _ _ _ _ HFL HBE
        · go_wp2
          have hr := HR5.out.box
          have hk := HR5.out.kept (bnew w41s (.cells #[.int .u64 0, .int .u64 0, .slice none 0 0] 27))
          refine OnToQ.mk hk (Sub.refl _) ?_
          clear hk
          obtain ⟨b7, hb7⟩ : ∃ y, w41s.heap.size = y := ⟨_, rfl⟩
          obtain ⟨w47s, hW⟩ : ∃ z, w41s.alloc (.cells #[.int .u64 0, .int .u64 0, .slice none 0 0] 27) = z := ⟨_, rfl⟩
          rw [hb7, hW] at hr
          try rw [hb7]
          try rw [hW]
          have HR5 := hide hr
          clear hr hW hb7
          refine growQ_one 5 _ 2 rfl rfl (by kernel_rfl) ?_
          · obtain ⟨v32, w48s, hrun, hr, hk⟩ := HR5.out.app4 (by omega) 22
            refine Ldg.wpList_app_run rfl _ _ _ _ rfl rfl rfl hrun ?_
            go_wp2
            refine OnToQ.mk hk (Sub.refl _) ?_
            rw [HE5.out] at hr
            have HR5 := hide hr
            clear hr hrun hk
            obtain ⟨a5, c5, rfl, hc5, hl5⟩ := HR5.out.own.view
            clear hc5 hl5
            refine growQ_one 6 _ 1 rfl rfl (by kernel_rfl) ?_
            · go_wp2_with fail
              refine (run_any c5 (las5 HR5.out.own) HOK5.out (by rw [HN5.out]; omega)).mono ?_
              rintro e w49s ⟨aM, mM, cM, rfl, hlm, hbm⟩
              rw [HM5.out] at hlm ⊢
              rw [HF2.out, HN2.out] at hlm ⊢
              have hk := HR5.out.kept hbm
              have HR5 := hide (HR5.out.then hbm)
              have HLL := hide hlm
              clear hlm hbm
              go_wp2
              refine OnToQ.mk hk (Sub.refl _) ?_
              clear hk
              have hz := (HR5.out.bx b7 rfl).2.1
              have hb7 := (HR5.out.bx b7 rfl).1
              have z0 := lcell_of hz 0 rfl
              have z1 := lcell_of hz 1 rfl
              have z2 := lcell_of hz 2 rfl
              have zf := lfrozen_of hz
              have hfl := LBox.fill (L := M.abs) hz HLL.out (above_pos HMO.out)
              have k1 := kept3 w49s b7 (.int .u64 (F2 : Int)) (.int .u64 (N2 : Int)) (.slice aM mM cM)
              obtain ⟨wt, hwt⟩ : ∃ z, ((w49s.setCell ⟨b7, 0, none⟩ (.int .u64 (F2 : Int))).setCell ⟨b7, 1, none⟩ (.int .u64 (N2 : Int))).setCell ⟨b7, 2, none⟩ (.slice aM mM cM) = z := ⟨_, rfl⟩
              rw [hwt] at hfl k1
              have HFL := hide hfl
              have HBE := hide (HR5.out.bel.trans (k1.bel (fun b hb => by omega)))
              clear hfl hz
              refine growQ_one 8 _ 0 rfl rfl (by kernel_rfl) ?_
              go_wp2
              try rw [hwt]
              refine OnToQ.mk (k1.mono (fun b hb => by omega)) (Sub.refl _) ?_
              clear z0 z1 z2 zf k1 hwt
              refine growQ_end (by kernel_rfl) (by kernel_rfl) ?_
              go_wp2
              exact HK.out _ _ _ _ _ _ _ _ _ _ _ _ HFL HBE
      · go_wp2
        have hr := HR5.out.box
        have hk := HR5.out.kept (bnew w40s (.cells #[.int .u64 0, .int .u64 0, .slice none 0 0] 27))
        refine OnToQ.mk hk (Sub.refl _) ?_
        clear hk
        obtain ⟨b7, hb7⟩ : ∃ y, w40s.heap.size = y := ⟨_, rfl⟩
        obtain ⟨w50s, hW⟩ : ∃ z, w40s.alloc (.cells #[.int .u64 0, .int .u64 0, .slice none 0 0] 27) = z := ⟨_, rfl⟩
        rw [hb7, hW] at hr
        try rw [hb7]
        try rw [hW]
        have HR5 := hide hr
        clear hr hW hb7
        refine growQ_one 2 _ 3 rfl rfl (by kernel_rfl) ?_
        · obtain ⟨v29, w51s, hrun, hr, hk⟩ := HR5.out.app (n := l.length) (HA3.out.below HR5.out.bel) hno rfl (by simp only [List.length_nil]; omega) 22
          rw [List.nil_append] at hr
          refine Ldg.wpList_app_run rfl _ _ _ _ rfl rfl rfl hrun ?_
          go_wp2
          refine OnToQ.mk hk (Sub.refl _) ?_
          have HR5 := hide hr
          clear hr hrun hk
          refine growQ_one 5 _ 2 rfl rfl (by kernel_rfl) ?_
          · obtain ⟨v32, w52s, hrun, hr, hk⟩ := HR5.out.app4 (by omega) 22
            refine Ldg.wpList_app_run rfl _ _ _ _ rfl rfl rfl hrun ?_
            go_wp2
            refine OnToQ.mk hk (Sub.refl _) ?_
            rw [HE5.out] at hr
            have HR5 := hide hr
            clear hr hrun hk
            obtain ⟨a5, c5, rfl, hc5, hl5⟩ := HR5.out.own.view
            clear hc5 hl5
            refine growQ_one 6 _ 1 rfl rfl (by kernel_rfl) ?_
            · go_wp2_with fail
              refine (run_any c5 (las5 HR5.out.own) HOK5.out (by rw [HN5.out]; omega)).mono ?_
              rintro e w53s ⟨aM, mM, cM, rfl, hlm, hbm⟩
              rw [HM5.out] at hlm ⊢
              rw [HF2.out, HN2.out] at hlm ⊢
              have hk := HR5.out.kept hbm
              have HR5 := hide (HR5.out.then hbm)
              have HLL := hide hlm
              clear hlm hbm
              go_wp2
              refine OnToQ.mk hk (Sub.refl _) ?_
              clear hk
              have hz := (HR5.out.bx b7 rfl).2.1
              have hb7 := (HR5.out.bx b7 rfl).1
              have z0 := lcell_of hz 0 rfl
              have z1 := lcell_of hz 1 rfl
              have z2 := lcell_of hz 2 rfl
              have zf := lfrozen_of hz
              have hfl := LBox.fill (L := M.abs) hz HLL.out (above_pos HMO.out)
              have k1 := kept3 w53s b7 (.int .u64 (F2 : Int)) (.int .u64 (N2 : Int)) (.slice aM mM cM)
              obtain ⟨wt, hwt⟩ : ∃ z, ((w53s.setCell ⟨b7, 0, none⟩ (.int .u64 (F2 : Int))).setCell ⟨b7, 1, none⟩ (.int .u64 (N2 : Int))).setCell ⟨b7, 2, none⟩ (.slice aM mM cM) = z := ⟨_, rfl⟩
              rw [hwt] at hfl k1
              have HFL := hide hfl
              have HBE := hide (HR5.out.bel.trans (k1.bel (fun b hb => by omega)))
              clear hfl hz
              refine growQ_one 8 _ 0 rfl rfl (by kernel_rfl) ?_
              go_wp2
              try rw [hwt]
              refine OnToQ.mk (k1.mono (fun b hb => by omega)) (Sub.refl _) ?_
              clear z0 z1 z2 zf k1 hwt
              refine growQ_end (by kernel_rfl) (by kernel_rfl) ?_
              go_wp2
              exact HK.out _ _ _ _ _ _ _ _ _ _ _ _ HFL HBE
    · go_wp2
      have hr := HR5.out.box
      have hk := HR5.out.kept (bnew w39s (.cells #[.int .u64 0, .int .u64 0, .slice none 0 0] 27))
      refine OnToQ.mk hk (Sub.refl _) ?_
      clear hk
      obtain ⟨b7, hb7⟩ : ∃ y, w39s.heap.size = y := ⟨_, rfl⟩
      obtain ⟨w54s, hW⟩ : ∃ z, w39s.alloc (.cells #[.int .u64 0, .int .u64 0, .slice none 0 0] 27) = z := ⟨_, rfl⟩
      rw [hb7, hW] at hr
      try rw [hb7]
      try rw [hW]
      have HR5 := hide hr
      clear hr hW hb7
      refine growQ_one 0 _ 4 rfl rfl (by kernel_rfl) ?_
      · go_wp2
        have hr := HR5.out.empty
        have hk := HR5.out.kept (bnew w54s (.cells #[] 36))
        refine OnToQ.mk hk (Sub.refl _) ?_
        clear hk
        obtain ⟨g0, hg0⟩ : ∃ y, w54s.heap.size = y := ⟨_, rfl⟩
        obtain ⟨w55s, hW⟩ : ∃ z, w54s.alloc (.cells #[] 36) = z := ⟨_, rfl⟩
        rw [hg0, hW] at hr
        try rw [hg0]
        try rw [hW]
        have HR5 := hide hr
        clear hr hW hg0
        refine growQ_one 2 _ 3 rfl rfl (by kernel_rfl) ?_
        · obtain ⟨v29, w56s, hrun, hr, hk⟩ := HR5.out.app (n := l.length) (HA3.out.below HR5.out.bel) hno rfl (by simp only [List.length_nil]; omega) 22
          rw [List.nil_append] at hr
          refine Ldg.wpList_app_run rfl _ _ _ _ rfl rfl rfl hrun ?_
          go_wp2
          refine OnToQ.mk hk (Sub.refl _) ?_
          have HR5 := hide hr
          clear hr hrun hk
          refine growQ_one 5 _ 2 rfl rfl (by kernel_rfl) ?_
          · obtain ⟨v32, w57s, hrun, hr, hk⟩ := HR5.out.app4 (by omega) 22
            refine Ldg.wpList_app_run rfl _ _ _ _ rfl rfl rfl hrun ?_
            go_wp2
            refine OnToQ.mk hk (Sub.refl _) ?_
            rw [HE5.out] at hr
            have HR5 := hide hr
            clear hr hrun hk
            obtain ⟨a5, c5, rfl, hc5, hl5⟩ := HR5.out.own.view
            clear hc5 hl5
            refine growQ_one 6 _ 1 rfl rfl (by kernel_rfl) ?_
            · go_wp2_with fail
              refine (run_any c5 (las5 HR5.out.own) HOK5.out (by rw [HN5.out]; omega)).mono ?_
              rintro e w58s ⟨aM, mM, cM, rfl, hlm, hbm⟩
              rw [HM5.out] at hlm ⊢
              rw [HF2.out, HN2.out] at hlm ⊢
              have hk := HR5.out.kept hbm
              have HR5 := hide (HR5.out.then hbm)
              have HLL := hide hlm
              clear hlm hbm
              go_wp2
              refine OnToQ.mk hk (Sub.refl _) ?_
              clear hk
              have hz := (HR5.out.bx b7 rfl).2.1
              have hb7 := (HR5.out.bx b7 rfl).1
              have z0 := lcell_of hz 0 rfl
              have z1 := lcell_of hz 1 rfl
              have z2 := lcell_of hz 2 rfl
              have zf := lfrozen_of hz
              have hfl := LBox.fill (L := M.abs) hz HLL.out (above_pos HMO.out)
              have k1 := kept3 w58s b7 (.int .u64 (F2 : Int)) (.int .u64 (N2 : Int)) (.slice aM mM cM)
              obtain ⟨wt, hwt⟩ : ∃ z, ((w58s.setCell ⟨b7, 0, none⟩ (.int .u64 (F2 : Int))).setCell ⟨b7, 1, none⟩ (.int .u64 (N2 : Int))).setCell ⟨b7, 2, none⟩ (.slice aM mM cM) = z := ⟨_, rfl⟩
              rw [hwt] at hfl k1
              have HFL := hide hfl
              have HBE := hide (HR5.out.bel.trans (k1.bel (fun b hb => by omega)))
              clear hfl hz
              refine growQ_one 8 _ 0 rfl rfl (by kernel_rfl) ?_
              go_wp2
              try rw [hwt]
              refine OnToQ.mk (k1.mono (fun b hb => by omega)) (Sub.refl _) ?_
              clear z0 z1 z2 zf k1 hwt
              refine growQ_end (by kernel_rfl) (by kernel_rfl) ?_
              go_wp2
              exact HK.out _ _ _ _ _ _ _ _ _ _ _ _ HFL HBE
  · go_wp2
    have hr := HR5.out.box
    have hk := HR5.out.kept (bnew wq (.cells #[.int .u64 0, .int .u64 0, .slice none 0 0] 27))
    refine OnToQ.mk hk (Sub.refl _) ?_
    clear hk
    obtain ⟨b7, hb7⟩ : ∃ y, wq.heap.size = y := ⟨_, rfl⟩
    obtain ⟨w59s, hW⟩ : ∃ z, wq.alloc (.cells #[.int .u64 0, .int .u64 0, .slice none 0 0] 27) = z := ⟨_, rfl⟩
    rw [hb7, hW] at hr
    try rw [hb7]
    try rw [hW]
    have HR5 := hide hr
    clear hr hW hb7
    refine growQ_two 0 4 _ _ 5 rfl rfl rfl (by kernel_rfl) ?_ ?_
    · go_wp2
      have hr := HR5.out.empty
      have hk := HR5.out.kept (bnew w59s (.cells #[] 36))
      refine OnToQ.mk hk (Sub.refl _) ?_
      clear hk
      obtain ⟨g0, hg0⟩ : ∃ y, w59s.heap.size = y := ⟨_, rfl⟩
      obtain ⟨w60s, hW⟩ : ∃ z, w59s.alloc (.cells #[] 36) = z := ⟨_, rfl⟩
      rw [hg0, hW] at hr
      try rw [hg0]
      try rw [hW]
      have HR5 := hide hr
      clear hr hW hg0
      refine growQ_two 2 4 _ _ 4 rfl rfl rfl (by kernel_rfl) ?_ ?_
      · obtain ⟨v29, w61s, hrun, hr, hk⟩ := HR5.out.app (n := l.length) (HA3.out.below HR5.out.bel) hno rfl (by simp only [List.length_nil]; omega) 22
        rw [List.nil_append] at hr
        refine Ldg.wpList_app_run rfl _ _ _ _ rfl rfl rfl hrun ?_
        go_wp2
        refine OnToQ.mk hk (Sub.refl _) ?_
        have HR5 := hide hr
        clear hr hrun hk
        refine growQ_one 4 _ 3 rfl rfl (by kernel_rfl) ?_
        · go_wp2
          have hr := HR5.out.slice
          have hk := HR5.out.kept (bnew w61s (.cells #[.int .i64 qq.op, .int .i64 qq.nm, .int .i64 qq.sq, .int .i64 qq.kd] 36))
          refine OnToQ.mk hk (Sub.refl _) ?_
          clear hk
          obtain ⟨b4, hb4⟩ : ∃ y, w61s.heap.size = y := ⟨_, rfl⟩
          obtain ⟨w62s, hW⟩ : ∃ z, w61s.alloc (.cells #[.int .i64 qq.op, .int .i64 qq.nm, .int .i64 qq.sq, .int .i64 qq.kd] 36) = z := ⟨_, rfl⟩
          rw [hb4, hW] at hr
          try rw [hb4]
          try rw [hW]
          have HR5 := hide hr
          clear hr hW hb4
          refine growQ_one 5 _ 2 rfl rfl (by kernel_rfl) ?_
          · obtain ⟨v32, w63s, hrun, hr, hk⟩ := HR5.out.app4 (by omega) 22
            refine Ldg.wpList_app_run rfl _ _ _ _ rfl rfl rfl hrun ?_
            go_wp2
            refine OnToQ.mk hk (Sub.refl _) ?_
            rw [HE5.out] at hr
            have HR5 := hide hr
            clear hr hrun hk
            obtain ⟨a5, c5, rfl, hc5, hl5⟩ := HR5.out.own.view
            clear hc5 hl5
            refine growQ_one 6 _ 1 rfl rfl (by kernel_rfl) ?_
            · go_wp2_with fail
              refine (run_any c5 (las5 HR5.out.own) HOK5.out (by rw [HN5.out]; omega)).mono ?_
              rintro e w64s ⟨aM, mM, cM, rfl, hlm, hbm⟩
              rw [HM5.out] at hlm ⊢
              rw [HF2.out, HN2.out] at hlm ⊢
              have hk := HR5.out.kept hbm
              have HR5 := hide (HR5.out.then hbm)
              have HLL := hide hlm
              clear hlm hbm
              go_wp2
              refine OnToQ.mk hk (Sub.refl _) ?_
              clear hk
              have hz := (HR5.out.bx b7 rfl).2.1
              have hb7 := (HR5.out.bx b7 rfl).1
              have z0 := lcell_of hz 0 rfl
              have z1 := lcell_of hz 1 rfl
              have z2 := lcell_of hz 2 rfl
              have zf := lfrozen_of hz
              have hfl := LBox.fill (L := M.abs) hz HLL.out (above_pos HMO.out)
              have k1 := kept3 w64s b7 (.int .u64 (F2 : Int)) (.int .u64 (N2 : Int)) (.slice aM mM cM)
              obtain ⟨wt, hwt⟩ : ∃ z, ((w64s.setCell ⟨b7, 0, none⟩ (.int .u64 (F2 : Int))).setCell ⟨b7, 1, none⟩ (.int .u64 (N2 : Int))).setCell ⟨b7, 2, none⟩ (.slice aM mM cM) = z := ⟨_, rfl⟩
              rw [hwt] at hfl k1
              have HFL := hide hfl
              have HBE := hide (HR5.out.bel.trans (k1.bel (fun b hb => by omega)))
              clear hfl hz
              refine growQ_one 8 _ 0 rfl rfl (by kernel_rfl) ?_
              go_wp2
              try rw [hwt]
              refine OnToQ.mk (k1.mono (fun b hb => by omega)) (Sub.refl _) ?_
              clear z0 z1 z2 zf k1 hwt
              refine growQ_end (by kernel_rfl) (by kernel_rfl) ?_
              go_wp2
              exact HK.out _ _ _ _ _ _ _ _ _ _ _ _ HFL HBE
      · go_wp2
        have hr := HR5.out.slice
        have hk := HR5.out.kept (bnew w60s (.cells #[.int .i64 qq.op, .int .i64 qq.nm, .int .i64 qq.sq, .int .i64 qq.kd] 36))
        refine OnToQ.mk hk (Sub.refl _) ?_
        clear hk
        obtain ⟨b4, hb4⟩ : ∃ y, w60s.heap.size = y := ⟨_, rfl⟩
        obtain ⟨w65s, hW⟩ : ∃ z, w60s.alloc (.cells #[.int .i64 qq.op, .int .i64 qq.nm, .int .i64 qq.sq, .int .i64 qq.kd] 36) = z := ⟨_, rfl⟩
        rw [hb4, hW] at hr
        try rw [hb4]
        try rw [hW]
        have HR5 := hide hr
        clear hr hW hb4
        refine growQ_one 2 _ 3 rfl rfl (by kernel_rfl) ?_
        · obtain ⟨v29, w66s, hrun, hr, hk⟩ := HR5.out.app (n := l.length) (HA3.out.below HR5.out.bel) hno rfl (by simp only [List.length_nil]; omega) 22
          rw [List.nil_append] at hr
          refine Ldg.wpList_app_run rfl _ _ _ _ rfl rfl rfl hrun ?_
          go_wp2
          refine OnToQ.mk hk (Sub.refl _) ?_
          have HR5 := hide hr
          clear hr hrun hk
          refine growQ_one 5 _ 2 rfl rfl (by kernel_rfl) ?_
          · obtain ⟨v32, w67s, hrun, hr, hk⟩ := HR5.out.app4 (by omega) 22
            refine Ldg.wpList_app_run rfl _ _ _ _ rfl rfl rfl hrun ?_
            go_wp2
            refine OnToQ.mk hk (Sub.refl _) ?_
            rw [HE5.out] at hr
            have HR5 := hide hr
            clear hr hrun hk
            obtain ⟨a5, c5, rfl, hc5, hl5⟩ := HR5.out.own.view
            clear hc5 hl5
            refine growQ_one 6 _ 1 rfl rfl (by kernel_rfl) ?_
            · go_wp2_with fail
              refine (run_any c5 (las5 HR5.out.own) HOK5.out (by rw [HN5.out]; omega)).mono ?_
              rintro e w68s ⟨aM, mM, cM, rfl, hlm, hbm⟩
              rw [HM5.out] at hlm ⊢
              rw [HF2.out, HN2.out] at hlm ⊢
              have hk := HR5.out.kept hbm
              have HR5 := hide (HR5.out.then hbm)
              have HLL := hide hlm
              clear hlm hbm
              go_wp2
              refine OnToQ.mk hk (Sub.refl _) ?_
              clear hk
              have hz := (HR5.out.bx b7 rfl).2.1
              have hb7 := (HR5.out.bx b7 rfl).1
              have z0 := lcell_of hz 0 rfl
              have z1 := lcell_of hz 1 rfl
              have z2 := lcell_of hz 2 rfl
              have zf := lfrozen_of hz
              have hfl := LBox.fill (L := M.abs) hz HLL.out (above_pos HMO.out)
              have k1 := kept3 w68s b7 (.int .u64 (F2 : Int)) (.int .u64 (N2 : Int)) (.slice aM mM cM)
              obtain ⟨wt, hwt⟩ : ∃ z, ((w68s.setCell ⟨b7, 0, none⟩ (.int .u64 (F2 : Int))).setCell ⟨b7, 1, none⟩ (.int .u64 (N2 : Int))).setCell ⟨b7, 2, none⟩ (.slice aM mM cM) = z := ⟨_, rfl⟩
              rw [hwt] at hfl k1
              have HFL := hide hfl
              have HBE := hide (HR5.out.bel.trans (k1.bel (fun b hb => by omega)))
              clear hfl hz
              refine growQ_one 8 _ 0 rfl rfl (by kernel_rfl) ?_
              go_wp2
              try rw [hwt]
              refine OnToQ.mk (k1.mono (fun b hb => by omega)) (Sub.refl _) ?_
              clear z0 z1 z2 zf k1 hwt
              refine growQ_end (by kernel_rfl) (by kernel_rfl) ?_
              go_wp2
              exact HK.out _ _ _ _ _ _ _ _ _ _ _ _ HFL HBE
    · go_wp2
      have hr := HR5.out.slice
      have hk := HR5.out.kept (bnew w59s (.cells #[.int .i64 qq.op, .int .i64 qq.nm, .int .i64 qq.sq, .int .i64 qq.kd] 36))
      refine OnToQ.mk hk (Sub.refl _) ?_
      clear hk
      obtain ⟨b4, hb4⟩ : ∃ y, w59s.heap.size = y := ⟨_, rfl⟩
      obtain ⟨w69s, hW⟩ : ∃ z, w59s.alloc (.cells #[.int .i64 qq.op, .int .i64 qq.nm, .int .i64 qq.sq, .int .i64 qq.kd] 36) = z := ⟨_, rfl⟩
      rw [hb4, hW] at hr
      try rw [hb4]
      try rw [hW]
      have HR5 := hide hr
      clear hr hW hb4
      refine growQ_one 0 _ 4 rfl rfl (by kernel_rfl) ?_
      · go_wp2
        have hr := HR5.out.empty
        have hk := HR5.out.kept (bnew w69s (.cells #[] 36))
        refine OnToQ.mk hk (Sub.refl _) ?_
        clear hk
        obtain ⟨g0, hg0⟩ : ∃ y, w69s.heap.size = y := ⟨_, rfl⟩
        obtain ⟨w70s, hW⟩ : ∃ z, w69s.alloc (.cells #[] 36) = z := ⟨_, rfl⟩
        rw [hg0, hW] at hr
        try rw [hg0]
        try rw [hW]
        have HR5 := hide hr
        clear hr hW hg0
        refine growQ_one 2 _ 3 rfl rfl (by kernel_rfl) ?_
        · obtain ⟨v29, w71s, hrun, hr, hk⟩ := HR5.out.app (n := l.length) (HA3.out.below HR5.out.bel) hno rfl (by simp only [List.length_nil]; omega) 22
          rw [List.nil_append] at hr
          refine Ldg.wpList_app_run rfl _ _ _ _ rfl rfl rfl hrun ?_
          go_wp2
          refine OnToQ.mk hk (Sub.refl _) ?_
          have HR5 := hide hr
          clear hr hrun hk
          refine growQ_one 5 _ 2 rfl rfl (by kernel_rfl) ?_
          · obtain ⟨v32, w72s, hrun, hr, hk⟩ := HR5.out.app4 (by omega) 22
            refine Ldg.wpList_app_run rfl _ _ _ _ rfl rfl rfl hrun ?_
            go_wp2
            refine OnToQ.mk hk (Sub.refl _) ?_
            rw [HE5.out] at hr
            have HR5 := hide hr
            clear hr hrun hk
            obtain ⟨a5, c5, rfl, hc5, hl5⟩ := HR5.out.own.view
            clear hc5 hl5
            refine growQ_one 6 _ 1 rfl rfl (by kernel_rfl) ?_
            · go_wp2_with fail
              refine (run_any c5 (las5 HR5.out.own) HOK5.out (by rw [HN5.out]; omega)).mono ?_
              rintro e w73s ⟨aM, mM, cM, rfl, hlm, hbm⟩
              rw [HM5.out] at hlm ⊢
              rw [HF2.out, HN2.out] at hlm ⊢
              have hk := HR5.out.kept hbm
              have HR5 := hide (HR5.out.then hbm)
              have HLL := hide hlm
              clear hlm hbm
              go_wp2
              refine OnToQ.mk hk (Sub.refl _) ?_
              clear hk
              have hz := (HR5.out.bx b7 rfl).2.1
              have hb7 := (HR5.out.bx b7 rfl).1
              have z0 := lcell_of hz 0 rfl
              have z1 := lcell_of hz 1 rfl
              have z2 := lcell_of hz 2 rfl
              have zf := lfrozen_of hz
              have hfl := LBox.fill (L := M.abs) hz HLL.out (above_pos HMO.out)
              have k1 := kept3 w73s b7 (.int .u64 (F2 : Int)) (.int .u64 (N2 : Int)) (.slice aM mM cM)
              obtain ⟨wt, hwt⟩ : ∃ z, ((w73s.setCell ⟨b7, 0, none⟩ (.int .u64 (F2 : Int))).setCell ⟨b7, 1, none⟩ (.int .u64 (N2 : Int))).setCell ⟨b7, 2, none⟩ (.slice aM mM cM) = z := ⟨_, rfl⟩
              rw [hwt] at hfl k1
              have HFL := hide hfl
              have HBE := hide (HR5.out.bel.trans (k1.bel (fun b hb => by omega)))
              clear hfl hz
              refine growQ_one 8 _ 0 rfl rfl (by kernel_rfl) ?_
              go_wp2
              try rw [hwt]
              refine OnToQ.mk (k1.mono (fun b hb => by omega)) (Sub.refl _) ?_
              clear z0 z1 z2 zf k1 hwt
              refine growQ_end (by kernel_rfl) (by kernel_rfl) ?_
              go_wp2
              exact HK.out _ _ _ _ _ _ _ _ _ _ _ _ HFL HBE
end Go.Proofs.Ytjbdofjheeljkaa
