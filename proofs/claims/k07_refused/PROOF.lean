import PyProof.Rows.All
import Wide.All
import OpenK.AllK
import Wide.FinOn
import Lean
import PyProof.EqAt
import PyProof.EqKinds
import PyProof.TupleCall
import PySem.Challenge.RW_wholeahead_k07_refused
set_option Elab.async false
set_option linter.all false
set_option maxRecDepth 100000
namespace Wa
open PySem PySem.W PySem.Calls PyProof.Rows
def topRunT (tb : String → Option Builtin) (p : Program) (w : World) (n₀ : Nat) (ann : Option Value) : Nat → SharedT → Thread → Option SharedT
  | 0, _, _ => none
  | n + 1, s, t => match through t with
    | true => some s
    | false => match stepOk n₀ ann t with
      | false => none
      | true => match stepT (denote tb) p w s t with
        | some (s', t') => topRunT tb p w n₀ ann n s' t'
        | none => none
theorem topRunT_abs {tb : String → Option Builtin} {p : Program} {w : World} {n₀ : Nat} {ann : Option Value} : ∀ {n : Nat} {s r : SharedT} {t : Thread}, topRunT tb p w n₀ ann n s t = some r → topRun tb p w n₀ ann n s.abs t = some r.abs
  | 0, _, _, _, h => by cases h
  | n + 1, s, r, t, h => by
    unfold topRunT at h
    unfold topRun
    cases he : through t with
    | true => rw [he] at h; cases h; rfl
    | false =>
      rw [he] at h
      cases hk : stepOk n₀ ann t with
      | false => rw [hk] at h; cases h
      | true =>
        rw [hk] at h
        cases hs : stepT (denote tb) p w s t with
        | none => rw [hs] at h; cases h
        | some x => obtain ⟨s₂, t₂⟩ := x; rw [hs] at h; rw [stepT_spec hs]; exact topRunT_abs h
noncomputable def bootTree (P : Params) : BT := (BT.node (boot_o_0 P) (BT.node (boot_o_1 P) (BT.node (boot_o_3 P) (BT.node (boot_o_7 P) BT.nil BT.nil) BT.nil) (BT.node (boot_o_5 P) (BT.node (boot_o_9 P) BT.nil BT.nil) BT.nil)) (BT.node (boot_o_2 P) (BT.node (boot_o_4 P) (BT.node (boot_o_8 P) BT.nil BT.nil) BT.nil) (BT.node (boot_o_6 P) (BT.node (boot_o_10 P) BT.nil BT.nil) BT.nil)))
theorem bootTree_abs (P : Params) : boot_heap P = absHeap (bootTree P) 11 (boot_heap P).life := by kernel_rfl
noncomputable def lookAt (p q : Program) (loose : List Str) (Xt : Shared → Bool) {α : Type} (Yf : Shared → α) (h₀ : Heap) (s : Shared) :=
  ((staticsOk (importedModules p.main.body) h₀ s.heap && namesBound p s.heap && gensDone s && laidKept h₀ s.heap), openSeen q loose (importedModules p.main.body) Xt true s, Yf s)
noncomputable def seenAll (p q : Program) (loose : List Str) (Xt : Shared → Bool) {α : Type} (Yf : Shared → α) (M : Nat) (w : World) (os : OsState) :=
  (((boot_heap w.params).isNs mainGlobals, (boot_heap w.params).objs.size, (boot_heap w.params).nsMap mainGlobals "__annotations__"),
    (topRunT treeTable p w 11 (some (.ref 6)) M ⟨bootTree w.params, 11, (boot_heap w.params).life, Array.mk [], boot_drawn, boot_toks, os⟩ (topStub p)).map fun r => lookAt p q loose Xt Yf (boot_heap w.params) r.abs)
theorem left_of_tree {p q : Program} {loose : List Str} {Xt : Shared → Bool} {α : Type} {Yf : Shared → α} {Ya : World → α} {N : Nat} (M : Nat)
    (e : opening p = plainProg p.main.scope.names) (hN : Nat.ble 600 N = true) (f : ∀ s, fenceModules? p s = some s) (le : Nat.ble M N = true)
    (run : ∀ (w : World) (os : OsState), seenAll p q loose Xt Yf M w os = ((true, 11, some (.ref 6)), some (true, openGood q loose, Ya w))) : LeftO p q loose Xt Yf Ya N := fun w => by
  obtain ⟨⟨h, gs, d, k, os⟩, e1, e'⟩ := Option.map_eq_some_iff.mp (boot_open e hN f w)
  obtain ⟨rfl, rfl, rfl, rfl⟩ : h = boot_heap w.params ∧ gs = Array.mk [] ∧ d = boot_drawn ∧ k = boot_toks := by simpa using e'
  have R := run w os
  unfold seenAll at R
  obtain ⟨z, R⟩ := Prod.mk.inj R
  obtain ⟨z1, z2, z3⟩ : _ ∧ _ ∧ _ := by simpa only [Prod.mk.injEq] using z
  obtain ⟨r, hr, hl⟩ := Option.map_eq_some_iff.mp R
  unfold lookAt at hl
  obtain ⟨l1, l2, l3⟩ : _ ∧ _ ∧ _ := by simpa only [Prod.mk.injEq] using hl
  have r1 := topRun_mono (N - M) _ _ _ _ (topRunT_abs hr)
  rw [show M + (N - M) = N by have := Nat.le_of_ble_eq_true le; omega] at r1
  have hb : (⟨boot_heap w.params, Array.mk [], boot_drawn, boot_toks, os⟩ : Shared) = SharedT.abs ⟨bootTree w.params, 11, (boot_heap w.params).life, Array.mk [], boot_drawn, boot_toks, os⟩ := by
    unfold SharedT.abs
    dsimp only
    rw [← bootTree_abs]
  have t : topFrom treeTable p w N ⟨boot_heap w.params, Array.mk [], boot_drawn, boot_toks, os⟩ = some r.abs := by
    unfold topFrom
    dsimp only
    rw [z1, z2, z3, hb, r1]
    show (match staticsOk (importedModules p.main.body) (boot_heap w.params) r.abs.heap && namesBound p r.abs.heap && gensDone r.abs && laidKept (boot_heap w.params) r.abs.heap with | true => _ | false => _) = _
    rw [l1]
  unfold openEnds
  rw [e1]
  show (topFrom treeTable p w N _).map _ = _
  rw [t]
  show some (_, _) = some (_, _)
  rw [l2, l3]
end Wa
namespace Wa
open PySem PySem.W PySem.Calls PyProof.Rows
end Wa
namespace Wa
open PySem PySem.W PySem.Calls PyProof.Rows
noncomputable def seenKM (p q : Program) (R : WRecords) (M : Nat) (as ts : List Addr) (w : World) (os : OsState) :=
  seenAll p q [] (fun s => xlAt q [] s && recOk R s) (fun s => (as.map s.heap.get?, ts.map s.heap.get?)) M w os
noncomputable def dueKM (q : Program) (K : Params → Frag) (ts : List Addr) (w : World) :=
  (((true, 11, some (Value.ref 6)), some (true, openGood q [], (K w.params).map fun p => some p.2, ts.map fun _ => some (tabObj #[]))) : (Bool × Nat × Option Value) × Option (Bool × _ × List (Option Obj) × List (Option Obj)))
theorem left_km {p q : Program} {R : WRecords} {K : Params → Frag} {as ts : List Addr} {ek : ∀ P, as = (K P).map (·.1)} {N : Nat} (M : Nat)
    (e : opening p = plainProg p.main.scope.names) (hN : Nat.ble 600 N = true) (f : ∀ s, fenceModules? p s = some s) (le : Nat.ble M N = true)
    (run : ∀ (w : World) (os : OsState), seenKM p q R M as ts w os = dueKM q K ts w) :
    LeftO p q [] (fun s => xlAt q [] s && recOk R s) (Hook.obs (kmHook K as ek ts)) (Hook.val (kmHook K as ek ts)) N := left_of_tree M e hN f le run
end Wa
set_option maxHeartbeats 0
def Wa.view : PySem.Program := { PySem.Challenge.pw_wholeahead_k07_refused with main := { PySem.Challenge.pw_wholeahead_k07_refused.main with body := (PySem.Challenge.pw_wholeahead_k07_refused.main.body.drop 0).take 1 ++ ((PySem.Challenge.pw_wholeahead_k07_refused.main.body.drop 2).take 4 ++ ((PySem.Challenge.pw_wholeahead_k07_refused.main.body.drop 7).take 12 ++ ((PySem.Challenge.pw_wholeahead_k07_refused.main.body.drop 20).take 11 ++ ((PySem.Challenge.pw_wholeahead_k07_refused.main.body.drop 32).take 21 ++ ((PySem.Challenge.pw_wholeahead_k07_refused.main.body.drop 54)))))) } }
theorem Wa.lay1 : (fun _ => true) @Wa.seenKM = true := by k_qdec
theorem Wa.lay2 : (fun _ => true) @Wa.dueKM = true := by k_qdec
theorem Wa.lay3 : (fun _ => true) Wa.view = true := by k_qdec
local macro_rules | `(tactic| o_head $H:term) => `(tactic| refine PySem.W.holds_open (q := Wa.view) (loose := []) (Xt := fun s => PySem.W.xlAt Wa.view [] s && PySem.W.recOk (PySem.W.RowW.records (PySem.W.OpenRow.toRowW (PySem.W.OpenLaw.row PySem.Challenge.rw_wholeahead_k07_refused))) s) (XP := PySem.W.XL Wa.view []) (Yf := PySem.W.Hook.obs $H) (Ya := PySem.W.Hook.val $H) (YP := PySem.W.Hook.says $H) (N := 12100) ?_ (PySem.W.Hook.of $H) (PySem.W.Hook.keeps $H) (fun s e => PySem.W.xl_of s (Bool.and_eq_true_iff.mp e).1) PySem.W.XL.keeps (by rfl) (by rfl) (by rfl) (fun s e => PySem.W.recFacts_of (Bool.and_eq_true_iff.mp e).2) (by rfl) (by first | assumption | decide +kernel) (by decide +kernel) ⟨rfl, rfl, rfl, rfl, rfl, by decide +kernel⟩ ?_ ?_)
/-- of no use but that the heap's names are laid: under a premise that can't be -/
theorem Wa.early (any : ∀ p : Prop, p) : PySem.Challenge.rw_wholeahead_k07_refused.row.Holds := by
  k_head
  all_goals exact any _
def Wa.ads : List PySem.Addr := [2, 3, 15, 17, 18, 20, 21, 22, 29, 30, 31, 32, 35, 42, 43, 44, 47, 54, 55, 56, 59, 66, 67, 68, 71, 73, 74, 76, 77, 78, 81, 82, 83, 85, 86, 88, 89, 90, 92, 93, 95, 96, 97, 99, 100, 102, 103, 104, 106, 107, 109, 110, 111, 113, 114, 116, 117, 118, 120, 121, 123, 124, 125, 127, 128, 130, 131, 132, 135, 136, 137, 140, 141, 142, 145, 146, 154, 155, 156, 157, 158, 161, 168, 170, 171, 173, 174, 175, 177, 178, 180, 181, 182, 183, 184, 187, 194, 196, 197, 199, 200, 201, 203, 204, 206, 207, 208, 209, 210, 213, 220, 222, 223, 225, 226, 227, 229, 230, 232, 233, 234, 236, 237, 239, 240, 241, 242, 243, 246, 253, 255, 256, 258, 259, 260, 262, 263, 265, 266, 267, 268, 269, 272, 279, 281, 282, 284, 285, 286, 288, 289, 291, 292, 293, 294, 295, 298, 305, 307, 308, 310, 311, 312, 314, 315, 317, 318, 319, 320, 321, 324, 331, 333, 334, 336, 337, 338, 340, 341, 343, 344, 345, 346, 347, 350, 357, 359, 360, 362, 363, 364, 366, 367, 369, 370, 371, 372, 373, 376, 383, 385, 386, 388, 389, 390, 392, 393, 395, 396, 397, 398, 399, 402, 409, 411, 412, 414, 415, 416, 418, 419, 421, 422, 423, 424, 425, 428, 430, 431, 433, 434, 435, 437, 438, 440, 441, 442, 444, 445, 447, 448, 449, 451, 452, 454, 455, 456, 459, 460, 461, 463, 464, 466, 467, 468, 470, 471, 473, 474, 475, 478, 479, 480, 482, 483, 485, 486, 487, 490, 491, 492, 495, 496, 497, 499, 500, 502, 503, 504, 506, 507, 509, 510, 511, 513, 514, 516, 517, 518, 520, 521, 523, 524, 525, 527, 528, 530, 531, 532, 534, 535, 537, 538, 539, 541, 542, 544, 545, 546, 548, 549, 551, 552, 553, 555, 556, 558, 559, 560, 562, 563, 565, 566, 567, 569, 570, 572, 573, 574, 577, 578, 579, 581, 582, 584, 585, 586, 588, 589, 591, 592, 593, 595, 596, 598, 599, 600, 603, 604]
theorem Wa.ads_is : ∀ P, Wa.ads = (Wa.early.heap_1 P).map (·.1) := fun _ => by kernel_rfl
theorem Wa.left : PySem.W.LeftO PySem.Challenge.pw_wholeahead_k07_refused Wa.view [] (fun s => PySem.W.xlAt Wa.view [] s && PySem.W.recOk (PySem.W.RowW.records (PySem.W.OpenRow.toRowW (PySem.W.OpenLaw.row PySem.Challenge.rw_wholeahead_k07_refused))) s) (PySem.W.Hook.obs (PySem.W.kmHook Wa.early.heap_1 Wa.ads Wa.ads_is [561, 481])) (PySem.W.Hook.val (PySem.W.kmHook Wa.early.heap_1 Wa.ads Wa.ads_is [561, 481])) 12100 := by
  have _ := Wa.lay1; have _ := Wa.lay2; have _ := Wa.lay3
  refine Wa.left_km (p := PySem.Challenge.pw_wholeahead_k07_refused) 6085 (by kernel_rfl) (by rfl) (fun s => by kernel_rfl) (by rfl) ?_
  intro w os
  rw [PySem.W.Fast.te3655347863795871703, PySem.W.Fast.te13964999691342249597, PySem.W.Fast.te9366832918595768805, PySem.W.Fast.te8103168835125166328]
  kernel_rfl
set_option maxHeartbeats 200000
set_option Elab.async false
set_option linter.all false
set_option maxRecDepth 100000
namespace L2
open PySem PySem.Spec PyProof.Rows

/-- a key: an int or a str -/
abbrev Key := Sum Int Str
def keyIs : Key → Value → Bool
  | .inl k, v => Value.isInt k v
  | .inr x, v => Value.isStrOf x v
def keyH (w : World) : Key → Int
  | .inl k => hashInt k
  | .inr x => hashStr w x
theorem keyIs_shape : ∀ {k : Key} {v : Value}, keyIs k v = true → (∃ i t, k = Sum.inl i ∧ v = Value.int i t) ∨ (∃ x t, k = Sum.inr x ∧ v = Value.str x t)
  | .inl i, v, h => by
    obtain ⟨t, e⟩ := Value.isInt_shape (k := i) (v := v) h
    exact .inl ⟨i, t, rfl, e⟩
  | .inr x, v, h => by
    obtain ⟨t, e⟩ := Value.isStrOf_shape (x := x) (v := v) h
    exact .inr ⟨x, t, rfl, e⟩
theorem keyIs_int (i : Int) (t : Tok) : keyIs (.inl i) (.int i t) = true := by simp [keyIs, Value.isInt]
theorem keyIs_str (x : Str) (t : Tok) : keyIs (.inr x) (.str x t) = true := by simp [keyIs, Value.isStrOf]
theorem key_ll (a b : Int) : decide ((Sum.inl a : Key) = Sum.inl b) = (a == b) := by
  by_cases e : a = b
  · subst e; simp
  · have h : ¬ (Sum.inl a : Key) = Sum.inl b := fun q => e (Sum.inl.inj q)
    rw [decide_eq_false h]
    exact (beq_eq_false_iff_ne.mpr e).symm
theorem key_rr (a b : Str) : decide ((Sum.inr a : Key) = Sum.inr b) = decide (a = b) := by
  by_cases e : a = b
  · subst e; simp
  · have h : ¬ (Sum.inr a : Key) = Sum.inr b := fun q => e (Sum.inr.inj q)
    rw [decide_eq_false h, decide_eq_false e]
theorem key_lr (a : Int) (b : Str) : decide ((Sum.inl a : Key) = Sum.inr b) = false := decide_eq_false (fun q => nomatch q)
theorem key_rl (a : Str) (b : Int) : decide ((Sum.inr a : Key) = Sum.inl b) = false := decide_eq_false (fun q => nomatch q)

def mixKind (prog : Program) (w : World) : PySem.KeyKind prog w Key where
  is := keyIs
  hash := keyH w
  inj := fun v a b ha hb => by
    rcases keyIs_shape ha with ⟨i, t, rfl, rfl⟩ | ⟨x, t, rfl, rfl⟩
    · rcases keyIs_shape hb with ⟨j, u, rfl, e⟩ | ⟨y, u, rfl, e⟩
      · injection e with e1 _; rw [e1]
      · exact nomatch e
    · rcases keyIs_shape hb with ⟨j, u, rfl, e⟩ | ⟨y, u, rfl, e⟩
      · exact nomatch e
      · injection e with e1 _; rw [e1]
  byValue := fun k v h => by
    rcases keyIs_shape h with ⟨i, t, rfl, rfl⟩ | ⟨x, t, rfl, rfl⟩ <;> rfl
  pyHash := fun hv h => by
    rcases keyIs_shape hv with ⟨i, t, rfl, rfl⟩ | ⟨x, t, rfl, rfl⟩
    · exact wpAny_pyHash_int h
    · exact wpAny_pyHash_str h
  eqBool := fun hu hv h => by
    rcases keyIs_shape hu with ⟨i, t, rfl, rfl⟩ | ⟨x, t, rfl, rfl⟩
    · rcases keyIs_shape hv with ⟨j, u, rfl, rfl⟩ | ⟨y, u, rfl, rfl⟩
      · rw [key_ll] at h; exact wpAny_eqBool_int h
      · rw [key_lr] at h; exact SeqAt.EqAt.int_str i t y u _ _ _ _ h
    · rcases keyIs_shape hv with ⟨j, u, rfl, rfl⟩ | ⟨y, u, rfl, rfl⟩
      · rw [key_rl] at h; exact SeqAt.EqAt.str_int x t j u _ _ _ _ h
      · rw [key_rr] at h; exact wpAny_eqBool_str h
  «strs» := fun k x t v h => by
    rcases keyIs_shape h with ⟨i, u, rfl, e⟩ | ⟨y, u, rfl, e⟩
    · exact nomatch e
    · injection e with e1 _
      subst e1
      cases v <;> rfl

theorem mixKind_int (prog : Program) (w : World) (i : Int) (t : Tok) : (mixKind prog w).is (.inl i) (.int i t) = true := keyIs_int i t
theorem mixKind_str (prog : Program) (w : World) (x : Str) (t : Tok) : (mixKind prog w).is (.inr x) (.str x t) = true := keyIs_str x t
end L2

namespace L2
open PySem PySem.Spec PyProof.Rows

/-- a value, without the heap -/
inductive V where
  | non | bl (b : Bool) | int (i : Int) | str (x : Str) | byt (b : Array UInt8) | flt (b : UInt64) | ref (a : Addr) | ty (n : String)
  deriving DecidableEq

def RelV : V → Value → Prop
  | .non, u => u = Value.none
  | .bl b, u => u = Value.bool b
  | .int i, u => ∃ t, u = Value.int i t
  | .str x, u => ∃ t, u = Value.str x t
  | .byt b, u => ∃ t, u = Value.bytes b t
  | .flt b, u => ∃ t, u = Value.float b t
  | .ref a, u => u = Value.ref a
  | .ty n, u => u = Value.type n

abbrev Vals : List V → List Value → Prop := Paired RelV
theorem Vals.length {xs : List V} {us : List Value} (r : Vals xs us) : xs.length = us.length := Paired.length r
theorem Vals.get : ∀ {xs : List V} {us : List Value} {i : Nat} {x : V}, Vals xs us → xs[i]? = some x → ∃ u, us[i]? = some u ∧ RelV x u
  | _, _, _, _, .nil, e => by simp at e
  | _, _, 0, _, .cons r _, e => by simp at e; subst e; exact ⟨_, rfl, r⟩
  | _, _, i + 1, x, .cons _ t, e => by
    obtain ⟨u, h1, h2⟩ := Vals.get (i := i) (x := x) t (by simpa using e)
    exact ⟨u, by simpa using h1, h2⟩
theorem Vals.set {x : V} {u : Value} (r : RelV x u) : ∀ {xs : List V} {us : List Value} (i : Nat), Vals xs us → Vals (xs.set i x) (us.set i u)
  | _, _, _, .nil => .nil
  | _, _, 0, .cons _ t => .cons r t
  | _, _, i + 1, .cons q t => .cons q (Vals.set r i t)
theorem Vals.append : ∀ {xs ys : List V} {us ws : List Value}, Vals xs us → Vals ys ws → Vals (xs ++ ys) (us ++ ws)
  | _, _, _, _, .nil, s => s
  | _, _, _, _, .cons r t, s => .cons r (Vals.append t s)
theorem Vals.take : ∀ {xs : List V} {us : List Value} (n : Nat), Vals xs us → Vals (xs.take n) (us.take n)
  | _, _, 0, _ => .nil
  | _, _, _ + 1, .nil => .nil
  | _, _, n + 1, .cons r t => .cons r (Vals.take n t)
theorem Vals.drop : ∀ {xs : List V} {us : List Value} (n : Nat), Vals xs us → Vals (xs.drop n) (us.drop n)
  | _, _, 0, r => r
  | _, _, _ + 1, .nil => .nil
  | _, _, n + 1, .cons _ t => Vals.drop n t
def RelO : Option V → Option Value → Prop
  | some v, some u => RelV v u
  | none, none => True
  | _, _ => False
def KV {κ : Type} : List (κ × V) → List (κ × Value) → Prop := Paired fun (p : κ × V) (q : κ × Value) => p.1 = q.1 ∧ RelV p.2 q.2

/-- a key of a dict (00_mix): an int or a text -/
def kV : Key → V
  | .inl i => .int i
  | .inr x => .str x

/-- what stands at a tracked address -/
inductive HO where
  /-- a list -/
  | lst (xs : List V)
  /-- a tuple (never changes) -/
  | tup (xs : List V)
  /-- a dict whose keys are ints and texts; one whose keys are tuples of ints and texts (the empty one is both) -/
  | dK (kvs : List (Key × V)) | dT (kvs : List (List Key × V))
  /-- a set of ints: its members, its size -/
  | set (S : Int → Bool) (n : Nat)
  /-- an instance of the class at C, its dict at dx, its attributes -/
  | ins (C dx : Addr) (fs : List (Str × V))
  /-- the dict of the instance at x -/
  | own (x : Addr)
  /-- the dict of an exception -/
  | xd (fs : List (Str × V))
  /-- a bound method, f of x -/
  | met (f x : Addr)
  /-- a range object lo, lo + 1, .. below hi -/
  | rng (lo hi : Int)
  /-- a thing that is known to the object (the script; a dict while a loop walks it): read, never written while it is so -/
  | frz (o : Obj) (u : HO)
  /-- a code object's table -/
  | tbl (lp : Pos) (qn : Str)
  /-- any other thing, by what is true of its one object (a def of one's own: SetO a S n := HO.ext fun h => ..) -/
  | ext (φ : Heap → Prop)

abbrev Hp := Addr → Option HO
def upd (H : Hp) (a : Addr) (o : HO) : Hp := fun b => if b = a then some o else H b
theorem upd_same {H : Hp} {a : Addr} {o : HO} : upd H a o a = some o := by unfold upd; rw [if_pos rfl]
theorem upd_ne {H : Hp} {a b : Addr} {o : HO} (h : b ≠ a) : upd H a o b = H b := by unfold upd; rw [if_neg h]
theorem ne_of_none {H : Hp} {a b : Addr} {o : HO} (h : H a = some o) (h' : H b = none) : a ≠ b := by
  intro e; subst e; rw [h] at h'; cases h'

section
variable (P : Program) (w : World)
def ObjOk (H : Hp) (h : Heap) (a : Addr) : HO → Prop
  | .lst xs => xs.length ≤ sizeLine ∧ ∃ (its : List Value) (n : Nat), Vals xs its ∧ h.get? a = some { cls := .type "list", data := .seq its.toArray n }
  | .tup xs => xs.length ≤ sizeLine ∧ ∃ its : List Value, Vals xs its ∧ IsTup h a its.toArray
  | .dK kvs => kvs.length ≤ sizeLine ∧ (a == sysModules) = false ∧ ∃ vs, KV kvs vs ∧ h.DictOf (mixKind P w) a vs
  | .dT kvs => kvs.length ≤ sizeLine ∧ (a == sysModules) = false ∧ ∃ xs : List (List Key × Addr × Value),
      Paired (fun (p : List Key × V) (q : List Key × Addr × Value) => p.1 = q.1 ∧ H q.2.1 = some (.tup (p.1.map kV)) ∧ RelV p.2 q.2.2) kvs xs ∧
      ∃ o es ep, h.get? a = some o ∧ o.ExactDict ∧ o.data = .dict es ep ∧ es.toList = xs.map (entryOfKey (tupleKind (mixKind P w))) ∧ (xs.map (·.1)).Nodup
  | .set S n => h.SetOf (intKind P w) a S n
  | .ins C dx fs => H dx = some (.own a) ∧ fs.length ≤ 1000 ∧ dx ≠ a ∧ h.get? a = some (PySem.W.instObj C dx) ∧
      ∃ mA, h.Ns1 dx mA ∧ (∀ f, RelO (fs.lookup f) (mA f)) ∧ PySem.Within mA (fs.map (·.1))
  | .own _ => ∃ o, h.get? a = some o
  | .xd fs => ∃ mA, h.Ns1 a mA ∧ ∀ f, RelO (fs.lookup f) (mA f)
  | .rng lo hi => ∃ t u v, h.get? a = some { cls := .type "range", data := .fields #[.int lo t, .int hi u, .int 1 v] }
  | .frz o u => h.get? a = some o ∧ ObjOk H h a u
  | .tbl lp qn => ∃ ps : Array Value, h.get? a = some { cls := .none, data := .fields ps } ∧ (ps = #[] ∨ ∃ c, H c = some (.own a) ∧ c ≠ a ∧ ps = #[rawInt lp.line, rawInt lp.col, .ref c] ∧ h.CodeRec (.ref c) qn)
  | .met f x => h.get? a = some (PySem.W.methodObj (.ref f) (.ref x))
  | .ext φ => φ h ∧ (∃ o, h.get? a = some o) ∧ ∀ h1 h2 : Heap, φ h1 → (∀ o, h1.get? a = some o → h2.get? a = some o) → φ h2
/-- the abstract heap is held -/
def HOk (H : Hp) (h : Heap) : Prop := ∀ a o, H a = some o → ObjOk P w H h a o
end

section
variable {P : Program} {w : World} {H H' : Hp} {h h' : Heap} {a : Addr} {o : HO}
theorem ObjOk.lt (x : ObjOk P w H h a o) : a < h.objs.size := by
  cases o with
  | lst xs => obtain ⟨_, _, _, _, e⟩ := x; exact Heap.lt_size e
  | tup xs => obtain ⟨_, _, _, p⟩ := x; exact p.lt
  | dK kvs => obtain ⟨_, _, _, _, o, _, _, e, _⟩ := x; exact Heap.lt_size e
  | dT kvs => obtain ⟨_, _, _, _, o, _, _, e, _⟩ := x; exact Heap.lt_size e
  | set S n => obtain ⟨o, _, _, _, e, _⟩ := x; exact Heap.lt_size e
  | ins C dx fs => obtain ⟨_, _, _, e, _⟩ := x; exact Heap.lt_size e
  | own y => obtain ⟨_, e⟩ := x; exact Heap.lt_size e
  | xd fs => obtain ⟨_, ⟨_, _, _, e, _⟩, _⟩ := x; exact Heap.lt_size e
  | rng lo hi => obtain ⟨_, _, _, e⟩ := x; exact Heap.lt_size e
  | frz ob u => obtain ⟨e, _⟩ := x; exact Heap.lt_size e
  | tbl lp qn => obtain ⟨ps, e, _⟩ := x; exact Heap.lt_size e
  | met f y => exact Heap.lt_size (show h.get? a = some _ from x)
  | ext φ => obtain ⟨_, ⟨_, e⟩, _⟩ := x; exact Heap.lt_size e
theorem Paired.mapP {α β : Type} {F G : α → β → Prop} : ∀ {l₁ : List α} {l₂ : List β}, Paired F l₁ l₂ → (∀ a b, F a b → G a b) → Paired G l₁ l₂
  | _, _, .nil, _ => .nil
  | _, _, .cons r t, f => .cons (f _ _ r) (Paired.mapP t f)
/-- what an object's description leans on: its own object, its own dict, the tuples -/
theorem ObjOk.stay (x : ObjOk P w H h a o) (k : ∀ b u, (b = a ∨ H b = some (.own a)) → h.get? b = some u → h'.get? b = some u)
    (ho : ∀ b, H b = some (.own a) → H' b = some (.own a)) (ht : ∀ b xs, H b = some (.tup xs) → H' b = some (.tup xs)) : ObjOk P w H' h' a o := by
  induction o with
  | lst xs => obtain ⟨z, its, n, r, e⟩ := x; exact ⟨z, its, n, r, k _ _ (.inl rfl) e⟩
  | tup xs => obtain ⟨z, its, r, ob, e, c⟩ := x; exact ⟨z, its, r, ob, k _ _ (.inl rfl) e, c⟩
  | dK kvs => obtain ⟨z, y, vs, r, ob, es, ep, e, c⟩ := x; exact ⟨z, y, vs, r, ob, es, ep, k _ _ (.inl rfl) e, c⟩
  | dT kvs =>
    obtain ⟨z, y, xs, r, ob, es, ep, e, c⟩ := x
    exact ⟨z, y, xs, Paired.mapP r fun p q z => ⟨z.1, ht _ _ z.2.1, z.2.2⟩, ob, es, ep, k _ _ (.inl rfl) e, c⟩
  | set S n => obtain ⟨ob, es, ep, t, e, c⟩ := x; exact ⟨ob, es, ep, t, k _ _ (.inl rfl) e, c⟩
  | ins C dx fs =>
    obtain ⟨d, z, ne, e, mA, ⟨od, es, ep, e2, c⟩, r⟩ := x
    exact ⟨ho _ d, z, ne, k _ _ (.inl rfl) e, mA, ⟨od, es, ep, k _ _ (.inr d) e2, c⟩, r⟩
  | own y => obtain ⟨ob, e⟩ := x; exact ⟨ob, k _ _ (.inl rfl) e⟩
  | xd fs => obtain ⟨mA, ⟨od, es, ep, e, c⟩, r⟩ := x; exact ⟨mA, ⟨od, es, ep, k _ _ (.inl rfl) e, c⟩, r⟩
  | rng lo hi => obtain ⟨t, u, v, e⟩ := x; exact ⟨t, u, v, k _ _ (.inl rfl) e⟩
  | frz ob u ih => obtain ⟨e, q⟩ := x; exact ⟨k _ _ (.inl rfl) e, ih q⟩
  | tbl lp qn =>
    obtain ⟨ps, e, r⟩ := x
    refine ⟨ps, k _ _ (.inl rfl) e, ?_⟩
    rcases r with r | ⟨c, hc, nc, r, c2, oc, vs, tq, z1, z2, z3⟩
    · exact .inl r
    · cases z1
      exact .inr ⟨c, ho _ hc, nc, r, c, oc, vs, tq, rfl, k _ _ (.inr hc) z2, z3⟩
  | met f y =>
    have e : h.get? a = some (PySem.W.methodObj (.ref f) (.ref y)) := x
    show h'.get? a = some (PySem.W.methodObj (.ref f) (.ref y))
    exact k a _ (.inl rfl) e
  | ext φ => obtain ⟨p, ⟨o, e⟩, st⟩ := x; exact ⟨st _ _ p fun o q => k _ _ (.inl rfl) q, ⟨o, k _ _ (.inl rfl) e⟩, st⟩
theorem HOk.lt (x : HOk P w H h) (e : H a = some o) : a < h.objs.size := (x a o e).lt
theorem HOk.fresh (x : HOk P w H h) (e : h.objs.size ≤ a) : H a = none := by
  cases q : H a with
  | none => rfl
  | some u => exact absurd (Nat.lt_of_lt_of_le (x.lt q) e) (Nat.lt_irrefl _)
/-- every object of the heap is kept -/
theorem HOk.kept (x : HOk P w H h) (k : ∀ b u, h.get? b = some u → h'.get? b = some u) : HOk P w H h' := fun a o e =>
  (x a o e).stay (fun b u _ q => k b u q) (fun _ q => q) fun _ _ q => q
/-- a new object is laid and tracked -/
theorem HOk.laid (x : HOk P w H h) (k : ∀ b u, h.get? b = some u → h'.get? b = some u) (hp : h.objs.size ≤ a) (new : ObjOk P w (upd H a o) h' a o) : HOk P w (upd H a o) h' := fun b u e => by
  have hn := x.fresh hp
  by_cases hb : b = a
  · subst hb; rw [upd_same] at e; cases e; exact new
  · rw [upd_ne hb] at e
    exact (x b u e).stay (fun c v _ q => k c v q) (fun c q => by rw [upd_ne (ne_of_none q hn)]; exact q) fun c xs q => by rw [upd_ne (ne_of_none q hn)]; exact q
end

/-- what may be read as u: it is u, or a known u -/
def Rd (H : Hp) (a : Addr) (u : HO) : Prop := H a = some u ∨ ∃ o, H a = some (.frz o u)
theorem Rd.of {H : Hp} {a : Addr} {u : HO} (h : H a = some u) : Rd H a u := .inl h
theorem Rd.ok {P : Program} {w : World} {H : Hp} {h : Heap} {a : Addr} {u : HO} (r : Rd H a u) (x : HOk P w H h) : ObjOk P w H h a u := by
  rcases r with r | ⟨o, r⟩
  · exact x a u r
  · obtain ⟨_, q⟩ := x a _ r
    exact q
/-- what may be written -/
def Mut : Option HO → Prop
  | some (.lst _) => True
  | some (.dK _) => True
  | some (.dT _) => True
  | some (.set _ _) => True
  | some (.ins _ _ _) => True
  | some (.ext _) => True
  | _ => False
section
variable {P : Program} {w : World} {H : Hp} {h h' : Heap} {x e : Addr} {o' : HO}
/-- the object at e is changed: x itself, or the dict of the instance x -/
theorem HOk.write (ok : HOk P w H h) (mu : Mut (H x)) (he : e = x ∨ H e = some (.own x)) (k : ∀ b u, b ≠ e → h.get? b = some u → h'.get? b = some u) (heo : ∃ u, h'.get? e = some u)
    (new : ObjOk P w (upd H x o') h' x o') : HOk P w (upd H x o') h' := fun b u q => by
  have nown : ∀ c y, H c = some (.own y) → c ≠ x := fun c y r z => by subst z; rw [r] at mu; exact mu
  have ntup : ∀ c xs, H c = some (.tup xs) → c ≠ x := fun c xs r z => by subst z; rw [r] at mu; exact mu
  by_cases hb : b = x
  · subst hb; rw [upd_same] at q; cases q; exact new
  · rw [upd_ne hb] at q
    by_cases hbe : b = e
    · have q' : H b = some (.own x) := by
        rcases he with z | z
        · exact absurd (hbe.trans z) hb
        · rw [hbe]; exact z
      rw [q] at q'; cases q'
      obtain ⟨v, hv⟩ := heo
      exact ⟨v, by rw [hbe]; exact hv⟩
    · refine (ok b u q).stay (fun c v hc r => k c v ?_ r) (fun c r => by rw [upd_ne (nown c b r)]; exact r) fun c xs r => by rw [upd_ne (ntup c xs r)]; exact r
      rcases hc with rfl | hc
      · exact hbe
      · rintro rfl
        rcases he with z | z
        · exact nown c b hc z
        · rw [hc] at z; cases z; exact hb rfl
end

structure Un (fs ex : List Addr) (H H' : Hp) (h h' : Heap) : Prop where
  keep : ∀ b o, h.get? b = some o → H b = none → b ∉ fs → b ∉ ex → h'.get? b = some o
  slot : ∀ b o, h.get? b = some o → H b = none → b ∈ fs → b ∉ ex → ∃ sl, h'.get? b = some { o with slots := sl }
  free : ∀ b o, h.get? b = some o → H b = none → b ∉ ex → H' b = none
  there : ∀ b o, h.get? b = some o → b ∉ ex → ∃ o', h'.get? b = some o'
  tups : ∀ b xs, H b = some (.tup xs) → H' b = some (.tup xs)
  frzs : ∀ b o u, H b = some (.frz o u) → H' b = some (.frz o u)
  tbls : ∀ b lp qn, H b = some (.tbl lp qn) → H' b = some (.tbl lp qn)
section
variable {fs fs' ex ex' : List Addr} {H H1 H2 : Hp} {h h1 h2 h' : Heap} {a x e : Addr} {o : HO}
theorem Un.any (u : Un fs ex H H1 h h1) {b : Addr} {ob : Obj} (q : h.get? b = some ob) (n : H b = none) (hx : b ∉ ex) : ∃ sl, h1.get? b = some { ob with slots := sl } := by
  by_cases hb : b ∈ fs
  · exact u.slot b ob q n hb hx
  · exact ⟨ob.slots, u.keep b ob q n hb hx⟩
theorem Un.trans (a : Un fs ex H H1 h h1) (b : Un fs ex H1 H2 h1 h2) : Un fs ex H H2 h h2 where
  keep := fun c ob q n hc hx => b.keep c ob (a.keep c ob q n hc hx) (a.free c ob q n hx) hc hx
  slot := fun c ob q n hc hx => by
    obtain ⟨sl, e1⟩ := a.slot c ob q n hc hx
    obtain ⟨sl', e2⟩ := b.slot c _ e1 (a.free c ob q n hx) hc hx
    exact ⟨sl', e2⟩
  free := fun c ob q n hx => by
    obtain ⟨o', e1⟩ := a.there c ob q hx
    exact b.free c o' e1 (a.free c ob q n hx) hx
  there := fun c ob q hx => by
    obtain ⟨o', e1⟩ := a.there c ob q hx
    exact b.there c o' e1 hx
  tups := fun c xs q => b.tups c xs (a.tups c xs q)
  frzs := fun c ob xs q => b.frzs c ob xs (a.frzs c ob xs q)
  tbls := fun c lp qn q => b.tbls c lp qn (a.tbls c lp qn q)
theorem Un.kept (k : ∀ b u, h.get? b = some u → h'.get? b = some u) : Un fs ex H H h h' :=
  ⟨fun b ob q _ _ _ => k b ob q, fun b ob q _ _ _ => ⟨ob.slots, k b ob q⟩, fun _ _ _ n _ => n, fun b ob q _ => ⟨ob, k b ob q⟩, fun _ _ q => q, fun _ _ _ q => q, fun _ _ _ q => q⟩
theorem Un.refl : Un fs ex H H h h := Un.kept fun _ _ q => q
theorem Un.laid (k : ∀ b u, h.get? b = some u → h'.get? b = some u) (hp : h.objs.size ≤ a) (hn : H a = none) : Un fs ex H (upd H a o) h h' where
  keep := fun b u q _ _ _ => k b u q
  slot := fun b u q _ _ _ => ⟨u.slots, k b u q⟩
  free := fun b u q n _ => by rw [upd_ne (Nat.ne_of_lt (Nat.lt_of_lt_of_le (Heap.lt_size q) hp))]; exact n
  there := fun b u q _ => ⟨u, k b u q⟩
  tups := fun b xs q => by rw [upd_ne (ne_of_none q hn)]; exact q
  frzs := fun b u xs q => by rw [upd_ne (ne_of_none q hn)]; exact q
  tbls := fun b lp qn q => by rw [upd_ne (ne_of_none q hn)]; exact q
theorem Un.write (mu : Mut (H x)) (he : e = x ∨ H e = some (.own x)) (k : ∀ b u, b ≠ e → h.get? b = some u → h'.get? b = some u) (heo : ∃ u, h'.get? e = some u) : Un fs ex H (upd H x o) h h' := by
  have hx : ∀ b, H b = none → b ≠ x := fun b n z => by subst z; rw [n] at mu; exact mu
  have hb : ∀ b, H b = none → b ≠ e := fun b n z => by
    subst z
    rcases he with r | r
    · exact hx b n r
    · rw [n] at r; cases r
  have hm : ∀ b u, H b = some u → ¬ Mut (some u) → b ≠ x := fun b u q nm z => by subst z; rw [q] at mu; exact nm mu
  refine ⟨fun b u q n _ _ => k b u (hb b n) q, fun b u q n _ _ => ⟨u.slots, k b u (hb b n) q⟩, fun b u q n _ => by rw [upd_ne (hx b n)]; exact n, fun b u q _ => ?_,
    fun b xs q => by rw [upd_ne (hm b _ q fun z => z)]; exact q, fun b u xs q => by rw [upd_ne (hm b _ q fun z => z)]; exact q, fun b lp qn q => by rw [upd_ne (hm b _ q fun z => z)]; exact q⟩
  by_cases hbe : b = e
  · subst hbe; exact heo
  · exact ⟨u, k b u hbe q⟩
theorem Un.mono (u : Un fs ex H H1 h h1) (hs : ∀ b ∈ fs, b ∈ fs') (hx : ∀ b ∈ ex, b ∈ ex') : Un fs' ex' H H1 h h1 :=
  ⟨fun b ob q n hb he => u.keep b ob q n (fun z => hb (hs b z)) fun z => he (hx b z), fun _ _ q n _ he => u.any q n fun z => he (hx _ z), fun b ob q n he => u.free b ob q n fun z => he (hx b z), fun b ob q he => u.there b ob q fun z => he (hx b z), u.tups, u.frzs, u.tbls⟩
end

def trk (h : Heap) (H : Hp) : List Addr := (List.range h.objs.size).filter fun a => (H a).isSome
def hidT (h : Heap) (H : Hp) : Heap := PySem.W.hideAll h (trk h H)
theorem hidT_size (h : Heap) (H : Hp) : (hidT h H).objs.size = h.objs.size := PySem.W.hideAll_size _ _
theorem hidT_get {h : Heap} {H : Hp} {b : Addr} {o : Obj} (e : h.get? b = some o) (n : H b = none) : (hidT h H).get? b = some o :=
  PySem.W.hideAll_get _ e fun hm => by
    have q : (H b).isSome = true := (List.mem_filter.mp hm).2
    rw [n] at q; simp at q
theorem of_hidT {h : Heap} {H : Hp} {b : Addr} {o : Obj} (e : (hidT h H).get? b = some o) : h.get? b = some o ∧ H b = none := by
  have e' : h.get? b = some o := PySem.W.of_hideAll (trk h H) e
  refine ⟨e', ?_⟩
  cases q : H b with
  | none => rfl
  | some x =>
    have hm : b ∈ trk h H := List.mem_filter.mpr ⟨List.mem_range.mpr (Heap.lt_size e'), by simp [q]⟩
    have z : (hidT h H).get? b = none := PySem.W.hideAll_none (trk h H) hm
    rw [z] at e; cases e

def allNews (g h : Heap) (L : Addr) : List (Addr × Obj) := (List.range h.objs.size).filterMap fun a => if a = L ∨ (g.get? a).isSome = true then none else (h.get? a).map fun o => (a, o)
def rest (g h : Heap) (L d : Addr) : List (Addr × Obj) := (allNews g h L).filter fun p => decide (p.1 ≠ d)
end L2

namespace L2
open PySem PySem.Spec PyProof.Rows

/-- the module's facts, over the base: the heap at the law's entry without what is tracked there -/
structure Mod (K : PySem.W.Frag) (mg : Str → Option Value) (base : Heap) : Prop where
  kin : K.In base
  glob : base.Ns mainGlobals mg
  blt : ∃ mb, base.Ns builtinsNs mb ∧ ∀ x : Str, x ≠ "__name__" → mb x = bootBuiltins x
  nolimit : base.NoLimit

/-- the context: a def's body (or a comprehension's block) running. base: fixed through the whole law; s₀, H₀: the entry; outer: the frames whose slots others may change (a def's callers); stack: all frames that run;
   ex: iterators that were made ahead of the entry and are walked here (a comprehension's); fn: the names whose cells were made at the entry (a def: all; a comprehension's block: its own); calm: not within an except suite; pn: pins that every state bears; xe: what is wanted of an exception that leaves the code -/
structure Cx where
  prog : Program
  w : World
  K : PySem.W.Frag
  mg : Str → Option Value
  base : Heap
  A : Around
  N : List Str
  s₀ : Shared
  H₀ : Hp
  env : Env
  outer : List Env
  stack : List Env
  ex : List Addr
  fn : Str → Bool
  calm : Bool
  pn : List (Addr × Obj)
  xe : Value → Shared → Prop
/-- the callers' frames -/
def frs (l : List Env) : List Addr := l.filterMap (·.frame)
abbrev Cx.fs (X : Cx) : List Addr := frs X.outer

def Vis (sc : Scope) (x : Str) : Prop := sc.names.lookup x = some .local ∨ sc.names.lookup x = some .cell ∨ sc.names.lookup x = some .free
def Loc (sc : Scope) (x : Str) : Prop := sc.names.lookup x = some .local ∨ sc.names.lookup x = some .cell
def Look (env : Env) (h : Heap) (m : Str → Option Value) (x : Str) (u : Value) : Prop :=
  (env.kindOf x = some .local ∧ m x = some u) ∨ ((env.kindOf x = some .cell ∨ env.kindOf x = some .free) ∧ ∃ c, env.cells.lookup x = some c ∧ h.IsCell c (some u))

structure Cx.Ok (X : Cx) : Prop where
  mod : Mod X.K X.mg X.base
  kind : X.env.scope.kind = .function
  glob : X.env.globals = mainGlobals
  blt : X.env.builtins = builtinsNs
  above : X.s₀.heap.objs.size ≤ X.env.locals
  inj : ∀ x y c, X.env.cells.lookup x = some c → X.env.cells.lookup y = some c → x = y
  has : ∀ x, (X.env.kindOf x = some .cell ∨ X.env.kindOf x = some .free) → ∃ c, X.env.cells.lookup x = some c
  cab : ∀ x c, X.fn x = true → X.env.cells.lookup x = some c → X.s₀.heap.objs.size ≤ c
  hd : X.calm = true → X.A.handled = none
  frames : X.A.frames = some X.stack
  stk : X.stack = X.outer ∨ (X.stack = X.env :: X.outer ∧ X.env.frame = some X.env.locals)
  exf : ∀ b ∈ X.ex, b ≠ X.env.locals ∧ ∀ x c, X.env.cells.lookup x = some c → c ≠ b
  bs : ∀ b o, X.base.get? b = some o → X.s₀.heap.get? b = some o ∧ X.H₀ b = none
  bsz : X.base.objs.size ≤ X.s₀.heap.objs.size
  noex : ∀ b o, X.base.get? b = some o → b ∉ X.ex
  exfs : ∀ b ∈ X.ex, b ∉ X.fs
  funs : X.s₀.heap.FunFrames X.base X.outer
  frf : ∀ b ∈ X.fs, X.H₀ b = none

structure Inv (X : Cx) (pins : List (Addr × Obj)) (σ : List (Option V)) (H : Hp) (s : Shared) : Prop where
  ok : X.Ok
  os : s.os = X.s₀.os
  bare : AllBare s.gens
  base : Un X.fs X.ex X.H₀ H X.s₀.heap s.heap
  loc : ∃ m, s.heap.Ns X.env.locals m ∧ ∀ (i : Nat) (x : Str) (v : V), X.N[i]? = some x → σ[i]? = some (some v) → Vis X.env.scope x → ∃ u, RelV v u ∧ Look X.env s.heap m x u
  cell : ∀ x c, X.env.cells.lookup x = some c → ∃ v, s.heap.IsCell c v
  free : H X.env.locals = none
  freeC : ∀ x c, X.env.cells.lookup x = some c → H c = none
  pin : ∀ p ∈ X.pn ++ pins, s.heap.get? p.1 = some p.2 ∧ H p.1 = none ∧ p.1 ≠ X.env.locals ∧ p.1 ∉ X.fs ∧ ∀ v, p.2.data ≠ .cell v
  hok : HOk X.prog X.w H s.heap
  len : σ.length = X.N.length

section
variable {X : Cx} {pins : List (Addr × Obj)} {σ : List (Option V)} {H H' : Hp} {s : Shared} {h' : Heap}

theorem Cx.Ok.nofr (ok : X.Ok) {b : Addr} {o : Obj} (e : X.base.get? b = some o) : b ∉ X.fs := fun hb => by
  have := (ok.funs.mem hb).1
  rw [e] at this; cases this
theorem Inv.bs (I : Inv X pins σ H s) : ∀ b o, X.base.get? b = some o → s.heap.get? b = some o ∧ H b = none := fun b o e =>
  ⟨I.base.keep b o (I.ok.bs b o e).1 (I.ok.bs b o e).2 (I.ok.nofr e) (I.ok.noex b o e), I.base.free b o (I.ok.bs b o e).1 (I.ok.bs b o e).2 (I.ok.noex b o e)⟩
theorem Inv.bk (I : Inv X pins σ H s) : ∀ b o, X.base.get? b = some o → s.heap.get? b = some o := fun b o e => (I.bs b o e).1
theorem Inv.mod (I : Inv X pins σ H s) : Mod X.K X.mg X.base := I.ok.mod
theorem Inv.kIn (I : Inv X pins σ H s) : X.K.In s.heap := I.ok.mod.kin.keeps I.bk
theorem Inv.nolimit (I : Inv X pins σ H s) : s.heap.NoLimit := I.ok.mod.nolimit.keeps I.bk
/-- the frame over the base: for OpenK's rules (K.In X.base is I.mod.kin) -/
theorem Inv.fr (I : Inv X pins σ H s) : ∃ m, Fr X.base X.env.locals s.heap m :=
  let ⟨m, hn, _⟩ := I.loc
  ⟨m, hn, I.bk, Nat.le_trans I.ok.bsz I.ok.above⟩
theorem Inv.lt (I : Inv X pins σ H s) : X.env.locals < s.heap.objs.size := let ⟨_, hn, _⟩ := I.loc; hn.lt
theorem Inv.sz (I : Inv X pins σ H s) : X.s₀.heap.objs.size ≤ s.heap.objs.size := Nat.le_trans I.ok.above (Nat.le_of_lt I.lt)
theorem Inv.nofs (I : Inv X pins σ H s) {a : Addr} (h : s.heap.objs.size ≤ a) : a ∉ X.fs := fun hb => by
  obtain ⟨_, o, ho, _⟩ := I.ok.funs.mem hb
  exact absurd (Nat.lt_of_lt_of_le (Heap.lt_size ho) (Nat.le_trans I.sz h)) (Nat.lt_irrefl _)
theorem Inv.cne (I : Inv X pins σ H s) : ∀ x c, X.env.cells.lookup x = some c → c ≠ X.env.locals := fun x c e z => by
  obtain ⟨v, o, ho, hd⟩ := I.cell x c e
  obtain ⟨m, ⟨o', es, ep, ho', hd', _⟩, _⟩ := I.loc
  rw [z, ho'] at ho; cases ho; rw [hd'] at hd; cases hd
theorem Inv.funs (I : Inv X pins σ H s) : s.heap.FunFrames X.base X.outer := by
  have all : ∀ (l : List Env), (∀ b ∈ frs l, b ∈ X.fs) → X.s₀.heap.FunFrames X.base l → s.heap.FunFrames X.base l := by
    intro l
    induction l with
    | nil => intro _ _; trivial
    | cons env r ih =>
      intro hs hl
      obtain ⟨hk, ⟨L, o, hf, hn, ho, hd⟩, hr⟩ := hl
      have hL : L ∈ X.fs := hs L (by unfold frs; rw [List.filterMap_cons, hf]; exact List.mem_cons_self)
      obtain ⟨sl, e⟩ := I.base.slot L o ho (I.ok.frf L hL) hL fun z => I.ok.exfs L z hL
      exact ⟨hk, ⟨L, _, hf, hn, e, hd⟩, ih (fun b hb => hs b (by unfold frs; rw [List.filterMap_cons, hf]; exact List.mem_cons_of_mem _ hb)) hr⟩
  exact all X.outer (fun _ hb => hb) I.ok.funs

/-- the frames that run, for a call -/
theorem Inv.stack (I : Inv X pins σ H s) : s.heap.FunFrames X.base X.stack := by
  rcases I.ok.stk with e | ⟨e, hf⟩
  · rw [e]; exact I.funs
  · rw [e]
    obtain ⟨m, hn, _⟩ := I.loc
    refine .cons (by rw [I.ok.kind]; decide) hf hn ?_ I.funs
    exact Heap.get?_none_of_le (Nat.le_trans I.ok.bsz I.ok.above)
theorem Inv.stkSub (I : Inv X pins σ H s) : ∀ b ∈ frs X.stack, b ∈ X.env.locals :: X.fs := fun b hb => by
  rcases I.ok.stk with e | ⟨e, hf⟩
  · rw [e] at hb; exact List.mem_cons_of_mem _ hb
  · rw [e] at hb
    unfold frs at hb
    rw [List.filterMap_cons, hf] at hb
    exact hb
theorem Inv.stkFree (I : Inv X pins σ H s) : ∀ b ∈ frs X.stack, H b = none := fun b hb => by
  rcases List.mem_cons.mp (I.stkSub b hb) with e | hb
  · rw [e]; exact I.free
  · obtain ⟨_, o, ho, _⟩ := I.ok.funs.mem hb
    exact I.base.free b o ho (I.ok.frf b hb) fun z => I.ok.exfs b z hb

/-- THE STEP: the untracked objects but the frame and the records at ch are kept (the callers' frames up to slots), the frame's map is kept, the new abstract heap is held -/
theorem Inv.step {g' : Array GenState} {t' : Nat} {d' : Drawn} {ch : List Addr} (I : Inv X pins σ H s)
    (hch : ∀ b ∈ ch, (b ∈ X.ex ∨ X.s₀.heap.objs.size ≤ b) ∧ b ≠ X.env.locals ∧ (∀ x c, X.env.cells.lookup x = some c → c ≠ b) ∧ ∀ p ∈ X.pn ++ pins, p.1 ≠ b)
    (keep : ∀ b o, b ≠ X.env.locals → b ∉ X.fs → b ∉ ch → s.heap.get? b = some o → H b = none → h'.get? b = some o)
    (slot : ∀ b o, b ≠ X.env.locals → b ∈ X.fs → b ∉ ch → s.heap.get? b = some o → H b = none → ∃ sl, h'.get? b = some { o with slots := sl }) (free : ∀ b o, b ∉ ch → s.heap.get? b = some o → H b = none → H' b = none)
    (there : ∀ b o, b ∉ ch → s.heap.get? b = some o → ∃ o', h'.get? b = some o')
    (tups : ∀ b xs, H b = some (.tup xs) → H' b = some (.tup xs)) (frzs : ∀ b o u, H b = some (.frz o u) → H' b = some (.frz o u)) (tbls : ∀ b lp qn, H b = some (.tbl lp qn) → H' b = some (.tbl lp qn))
    (ns : ∀ m, s.heap.Ns X.env.locals m → h'.Ns X.env.locals m) (hok : HOk X.prog X.w H' h') (hg : AllBare g') :
    Inv X pins σ H' { s with heap := h', gens := g', drawn := d', toks := t' } := by
  have neL : ∀ b o, X.s₀.heap.get? b = some o → b ≠ X.env.locals := fun b o e => Nat.ne_of_lt (Nat.lt_of_lt_of_le (Heap.lt_size e) I.ok.above)
  have neC : ∀ b o, X.s₀.heap.get? b = some o → b ∉ X.ex → b ∉ ch := fun b o e hx hb => by
    rcases (hch b hb).1 with z | z
    · exact hx z
    · exact absurd (Nat.lt_of_lt_of_le (Heap.lt_size e) z) (Nat.lt_irrefl _)
  have cellK : ∀ x c, X.env.cells.lookup x = some c → ∀ v, s.heap.IsCell c v → h'.IsCell c v := fun x c e v ⟨o, ho, hd⟩ => by
    have nch : c ∉ ch := fun z => (hch c z).2.2.1 x c e rfl
    by_cases hc : c ∈ X.fs
    · obtain ⟨sl, q⟩ := slot c o (I.cne x c e) hc nch ho (I.freeC x c e)
      exact ⟨_, q, hd⟩
    · exact ⟨o, keep c o (I.cne x c e) hc nch ho (I.freeC x c e), hd⟩
  refine ⟨I.ok, I.os, hg, ⟨fun b o e n hb hx => ?_, fun b o e n hb hx => ?_, fun b o e n hx => ?_, fun b o e hx => ?_, fun b xs e => tups b xs (I.base.tups b xs e), fun b o xs e => frzs b o xs (I.base.frzs b o xs e), fun b lp qn e => tbls b lp qn (I.base.tbls b lp qn e)⟩, ?_, fun x c e => ?_, ?_, fun x c e => ?_, fun p hp => ?_, hok, I.len⟩
  · exact keep b o (neL b o e) hb (neC b o e hx) (I.base.keep b o e n hb hx) (I.base.free b o e n hx)
  · obtain ⟨sl, e1⟩ := I.base.slot b o e n hb hx
    obtain ⟨sl', e2⟩ := slot b _ (neL b o e) hb (neC b o e hx) e1 (I.base.free b o e n hx)
    exact ⟨sl', e2⟩
  · obtain ⟨o', e1⟩ := I.base.there b o e hx
    exact free b o' (neC b o e hx) e1 (I.base.free b o e n hx)
  · obtain ⟨o', e1⟩ := I.base.there b o e hx
    exact there b o' (neC b o e hx) e1
  · obtain ⟨m, hn, hl⟩ := I.loc
    refine ⟨m, ns m hn, fun i x v e1 e2 e3 => ?_⟩
    obtain ⟨u, r, l⟩ := hl i x v e1 e2 e3
    refine ⟨u, r, ?_⟩
    rcases l with l | ⟨k, c, e, z⟩
    · exact .inl l
    · exact .inr ⟨k, c, e, cellK x c e _ z⟩
  · obtain ⟨v, z⟩ := I.cell x c e
    exact ⟨v, cellK x c e v z⟩
  · obtain ⟨m, ⟨o, _, _, ho, _⟩, _⟩ := I.loc
    exact free _ o (fun z => (hch _ z).2.1 rfl) ho I.free
  · obtain ⟨v, o, ho, hd⟩ := I.cell x c e
    exact free c o (fun z => (hch c z).2.2.1 x c e rfl) ho (I.freeC x c e)
  · obtain ⟨e, n, ne, nf, d⟩ := I.pin p hp
    have nch : p.1 ∉ ch := fun z => (hch p.1 z).2.2.2 p hp rfl
    exact ⟨keep p.1 p.2 ne nf nch e n, free p.1 p.2 nch e n, ne, nf, d⟩
/-- .. where the frame's own object is kept too -/
theorem Inv.un {t' : Nat} (I : Inv X pins σ H s) (u : Un X.fs [] H H' s.heap h') (hok : HOk X.prog X.w H' h') : Inv X pins σ H' { s with heap := h', toks := t' } := by
  obtain ⟨m, ⟨o, es, ep, ho, r⟩, _⟩ := id I.loc
  obtain ⟨sl, hL⟩ := u.any ho I.free (by simp)
  exact I.step (g' := s.gens) (d' := s.drawn) (ch := []) (fun _ z => nomatch z) (fun b o _ hb _ e n => u.keep b o e n hb (by simp)) (fun b o _ hb _ e n => u.slot b o e n hb (by simp)) (fun b o _ e n => u.free b o e n (by simp)) (fun b o _ e => u.there b o e (by simp)) u.tups u.frzs u.tbls (fun m' hm => by
    obtain ⟨o', es', ep', ho', r'⟩ := hm
    rw [ho] at ho'; cases ho'
    exact ⟨_, es', ep', hL, r'⟩) hok I.bare
/-- behind a call (or a comprehension's block): the slots of this frame may have changed too, the records at ch may have turned -/
theorem Inv.call {g' : Array GenState} {t' : Nat} {d' : Drawn} {ch : List Addr} (I : Inv X pins σ H s) (u : Un (frs X.stack) ch H H' s.heap h') (hok : HOk X.prog X.w H' h') (hg : AllBare g')
    (hch : ∀ b ∈ ch, (b ∈ X.ex ∨ X.s₀.heap.objs.size ≤ b) ∧ b ≠ X.env.locals ∧ (∀ x c, X.env.cells.lookup x = some c → c ≠ b) ∧ ∀ p ∈ X.pn ++ pins, p.1 ≠ b) :
    Inv X pins σ H' { s with heap := h', gens := g', drawn := d', toks := t' } := by
  obtain ⟨m, ⟨o, es, ep, ho, r⟩, _⟩ := id I.loc
  obtain ⟨sl, hL⟩ := u.any ho I.free fun z => (hch _ z).2.1 rfl
  exact I.step (ch := ch) hch (fun b o hL hb hc e n => u.keep b o e n (fun z => (List.mem_cons.mp (I.stkSub b z)).elim hL hb) hc) (fun b o _ _ hc e n => u.any e n hc) (fun b o hc e n => u.free b o e n hc) (fun b o hc e => u.there b o e hc) u.tups u.frzs u.tbls (fun m' hm => by
    obtain ⟨o', es', ep', ho', r'⟩ := hm
    rw [ho] at ho'; cases ho'
    exact ⟨_, es', ep', hL, r'⟩) hok hg
/-- an untracked record of ours (an iterator) has turned -/
theorem Inv.turned {t' : Nat} {it : Addr} (I : Inv X pins σ H s) (k : ∀ b o, b ≠ it → s.heap.get? b = some o → h'.get? b = some o) (hn : H it = none) (hL : it ≠ X.env.locals)
    (h1 : it ∈ X.ex ∨ X.s₀.heap.objs.size ≤ it) (h2 : ∀ x c, X.env.cells.lookup x = some c → c ≠ it) (h3 : ∀ p ∈ X.pn ++ pins, p.1 ≠ it) : Inv X pins σ H { s with heap := h', toks := t' } := by
  have nit : ∀ b u, H b = some u → b ≠ it := fun b u e z => by rw [z, hn] at e; cases e
  refine I.step (g' := s.gens) (d' := s.drawn) (ch := [it]) (fun b hb => ?_) (fun b o _ _ hc e _ => k b o (fun z => hc (by simp [z])) e) (fun b o _ _ hc e _ => ⟨o.slots, k b o (fun z => hc (by simp [z])) e⟩) (fun _ _ _ _ n => n)
    (fun b o hc e => ⟨o, k b o (fun z => hc (by simp [z])) e⟩) (fun _ _ e => e) (fun _ _ _ e => e) (fun _ _ _ e => e) (fun m hm => ?_) (fun b u e => ?_) I.bare
  · have e : b = it := by simpa using hb
    subst e
    exact ⟨h1, hL, h2, h3⟩
  · obtain ⟨o, es, ep, ho, r⟩ := hm
    exact ⟨o, es, ep, k _ o (Ne.symm hL) ho, r⟩
  · refine (I.hok b u e).stay (fun c v hc q => k c v ?_ q) (fun _ q => q) fun _ _ q => q
    rcases hc with z | z
    · rw [z]; exact nit b u e
    · exact nit c _ z
theorem Inv.tok (I : Inv X pins σ H s) (t : Nat) : Inv X pins σ H { s with toks := t } := I.un (h' := s.heap) (t' := t) Un.refl I.hok
/-- all objects kept -/
theorem Inv.kept {t' : Nat} (I : Inv X pins σ H s) (k : ∀ b u, s.heap.get? b = some u → h'.get? b = some u) : Inv X pins σ H { s with heap := h', toks := t' } := I.un (Un.kept k) (I.hok.kept k)
/-- a new object laid and tracked -/
theorem Inv.laid {a : Addr} {o : HO} {t' : Nat} (I : Inv X pins σ H s) (k : ∀ b u, s.heap.get? b = some u → h'.get? b = some u) (hp : s.heap.objs.size ≤ a) (new : ObjOk X.prog X.w (upd H a o) h' a o) :
    Inv X pins σ (upd H a o) { s with heap := h', toks := t' } := I.un (Un.laid k hp (I.hok.fresh hp)) (I.hok.laid k hp new)
/-- an object written -/
theorem Inv.write {x e : Addr} {o : HO} {t' : Nat} (I : Inv X pins σ H s) (mu : Mut (H x)) (he : e = x ∨ H e = some (.own x)) (k : ∀ b u, b ≠ e → s.heap.get? b = some u → h'.get? b = some u) (heo : ∃ u, h'.get? e = some u)
    (new : ObjOk X.prog X.w (upd H x o) h' x o) : Inv X pins σ (upd H x o) { s with heap := h', toks := t' } := I.un (Un.write mu he k heo) (I.hok.write mu he k heo new)
theorem Inv.pins_of {pins' : List (Addr × Obj)} (I : Inv X pins σ H s) (h : ∀ p ∈ pins', s.heap.get? p.1 = some p.2 ∧ H p.1 = none ∧ p.1 ≠ X.env.locals ∧ p.1 ∉ X.fs ∧ ∀ v, p.2.data ≠ .cell v) : Inv X pins' σ H s :=
  ⟨I.ok, I.os, I.bare, I.base, I.loc, I.cell, I.free, I.freeC, fun p hp => (List.mem_append.mp hp).elim (fun z => I.pin p (List.mem_append_left _ z)) (h p), I.hok, I.len⟩

theorem nodup_ix {N : List Str} (hN : N.Nodup) {i j : Nat} {x : Str} (a : N[i]? = some x) (b : N[j]? = some x) : i = j := by
  obtain ⟨h1, e1⟩ := List.getElem?_eq_some_iff.mp a
  obtain ⟨h2, e2⟩ := List.getElem?_eq_some_iff.mp b
  exact (List.getElem_inj hN).mp (e1.trans e2.symm)

/-- a name is stored; what changed -/
theorem store_ok2 {M : Model} {A : Around} {E : Value → Shared → Prop} {i : Nat} {x : Str} {v : V} {u : Value} {Q : Unit → Shared → Prop} (I : Inv X pins σ H s) (hN : X.N.Nodup) (hi : X.N[i]? = some x) (hx : Loc X.env.scope x) (r : RelV v u)
    (h : ∀ s', Inv X pins (σ.set i (some v)) H s' → (∃ a, Heap.SameBut a s.heap s'.heap ∧ (a = X.env.locals ∨ X.env.cells.lookup x = some a)) → Q () s') (hf : X.fn x = true ∨ X.env.scope.names.lookup x = some .local := by first | exact .inl rfl | exact .inr rfl | assumption) : wpAny M A (storeName X.env x u) Q E s := by
  obtain ⟨m, hn, hl⟩ := id I.loc
  have hcls : (X.env.scope.kind == .class || (X.env.scope.kind == .module && X.env.locals != X.env.globals)) = false := by rw [I.ok.kind]; rfl
  have hiσ : i < σ.length := by rw [I.len]; exact (List.getElem?_eq_some_iff.mp hi).1
  have cne := I.cne
  have tracked : ∀ {a : Addr} {h' : Heap}, (∃ o, s.heap.get? a = some o ∧ H a = none) → Heap.SameBut a s.heap h' → HOk X.prog X.w H h' := fun {a h'} ha hs b ob e => by
    obtain ⟨_, _, hfree⟩ := ha
    refine (I.hok b ob e).stay (fun c w' hc q => (hs.2 c ?_).trans q) (fun _ q => q) fun _ _ q => q
    rintro rfl
    rcases hc with rfl | hc
    · rw [hfree] at e; cases e
    · rw [hfree] at hc; cases hc
  rcases hx with hk | hk
  · refine wpAny_storeName_local hk hn (fun h' hn' hs => ?_) hcls
    obtain ⟨oL, _, _, hoL, _⟩ := id hn
    refine h _ ⟨I.ok, I.os, I.bare, ⟨fun b o e n hb hx => ?_, fun b o e n hb hx => ?_, I.base.free, fun b o e hx => ?_, I.base.tups, I.base.frzs, I.base.tbls⟩, ⟨_, hn', fun j y v' e1 e2 e3 => ?_⟩, fun y c e => ?_, I.free, I.freeC, fun p hp => ?_, tracked ⟨oL, hoL, I.free⟩ hs, by simpa using I.len⟩ ⟨_, hs, .inl rfl⟩
    · exact (hs.2 b (Nat.ne_of_lt (Nat.lt_of_lt_of_le (Heap.lt_size e) I.ok.above))).trans (I.base.keep b o e n hb hx)
    · obtain ⟨sl, e1⟩ := I.base.slot b o e n hb hx
      exact ⟨sl, (hs.2 b (Nat.ne_of_lt (Nat.lt_of_lt_of_le (Heap.lt_size e) I.ok.above))).trans e1⟩
    · obtain ⟨o', e1⟩ := I.base.there b o e hx
      exact ⟨o', (hs.2 b (Nat.ne_of_lt (Nat.lt_of_lt_of_le (Heap.lt_size e) I.ok.above))).trans e1⟩
    · by_cases hj : j = i
      · subst hj
        rw [hi] at e1; cases e1
        rw [List.getElem?_set_self hiσ] at e2
        cases e2
        exact ⟨u, r, .inl ⟨hk, by simp⟩⟩
      · rw [List.getElem?_set_ne (Ne.symm hj)] at e2
        obtain ⟨u', r', q⟩ := hl j y v' e1 e2 e3
        refine ⟨u', r', ?_⟩
        rcases q with ⟨k, e⟩ | ⟨k, c, e, z⟩
        · refine .inl ⟨k, ?_⟩
          have : y ≠ x := fun e => hj (nodup_ix hN e1 (e ▸ hi))
          simp [this, e]
        · exact .inr ⟨k, c, e, z.sameBut hs (cne y c e)⟩
    · obtain ⟨w', z⟩ := I.cell y c e
      exact ⟨w', z.sameBut hs (cne y c e)⟩
    · obtain ⟨e, n, ne, nf, d⟩ := I.pin p hp
      exact ⟨(hs.2 p.1 ne).trans e, n, ne, nf, d⟩
  · have hfn : X.fn x = true := by
      rcases hf with z | z
      · exact z
      · rw [z] at hk; cases hk
    obtain ⟨c, hc⟩ := I.ok.has x (.inl hk)
    obtain ⟨w', z⟩ := I.cell x c hc
    refine wpAny_storeName_cell I.ok.kind hk hc z (fun h' hc' hs => ?_)
    obtain ⟨oc, hoc, hocd⟩ := id z
    refine h { s with heap := h' } ⟨I.ok, I.os, I.bare, ⟨fun b o e n hb hx => ?_, fun b o e n hb hx => ?_, I.base.free, fun b o e hx => ?_, I.base.tups, I.base.frzs, I.base.tbls⟩, ⟨m, hn.sameBut hs (Ne.symm (cne x c hc)), fun j y v' e1 e2 e3 => ?_⟩, fun y c' e => ?_, I.free, I.freeC, fun p hp => ?_, tracked ⟨oc, hoc, I.freeC x c hc⟩ hs, by simpa using I.len⟩ ⟨c, hs, .inr hc⟩
    · exact (hs.2 b (Nat.ne_of_lt (Nat.lt_of_lt_of_le (Heap.lt_size e) (I.ok.cab x c hfn hc)))).trans (I.base.keep b o e n hb hx)
    · obtain ⟨sl, e1⟩ := I.base.slot b o e n hb hx
      exact ⟨sl, (hs.2 b (Nat.ne_of_lt (Nat.lt_of_lt_of_le (Heap.lt_size e) (I.ok.cab x c hfn hc)))).trans e1⟩
    · obtain ⟨o', e1⟩ := I.base.there b o e hx
      exact ⟨o', (hs.2 b (Nat.ne_of_lt (Nat.lt_of_lt_of_le (Heap.lt_size e) (I.ok.cab x c hfn hc)))).trans e1⟩
    · by_cases hj : j = i
      · subst hj
        rw [hi] at e1; cases e1
        rw [List.getElem?_set_self hiσ] at e2
        cases e2
        exact ⟨u, r, .inr ⟨.inl hk, c, hc, hc'⟩⟩
      · rw [List.getElem?_set_ne (Ne.symm hj)] at e2
        obtain ⟨u', r', q⟩ := hl j y v' e1 e2 e3
        refine ⟨u', r', ?_⟩
        rcases q with q | ⟨k, c', e, z'⟩
        · exact .inl q
        · refine .inr ⟨k, c', e, z'.sameBut hs ?_⟩
          rintro rfl
          exact hj (nodup_ix hN e1 (I.ok.inj _ _ _ e hc ▸ hi))
    · by_cases hcc : c' = c
      · subst hcc; exact ⟨_, hc'⟩
      · obtain ⟨w2, z2⟩ := I.cell y c' e
        exact ⟨w2, z2.sameBut hs hcc⟩
    · obtain ⟨e, n, ne, nf, d⟩ := I.pin p hp
      refine ⟨(hs.2 p.1 ?_).trans e, n, ne, nf, d⟩
      intro q
      rw [q, hoc] at e
      have q' : oc = p.2 := Option.some.inj e
      exact d w' (by rw [← q']; exact hocd)
theorem store_ok {M : Model} {A : Around} {E : Value → Shared → Prop} {i : Nat} {x : Str} {v : V} {u : Value} {Q : Unit → Shared → Prop} (I : Inv X pins σ H s) (hN : X.N.Nodup) (hi : X.N[i]? = some x) (hx : Loc X.env.scope x) (r : RelV v u)
    (h : ∀ s', Inv X pins (σ.set i (some v)) H s' → Q () s') (hf : X.fn x = true ∨ X.env.scope.names.lookup x = some .local := by first | exact .inl rfl | exact .inr rfl | assumption) : wpAny M A (storeName X.env x u) Q E s :=
  store_ok2 I hN hi hx r (fun s' I' _ => h s' I') hf
/-- behind a call or a block, the state as it is -/
theorem Inv.call' {s' : Shared} {ch : List Addr} (I : Inv X pins σ H s) (ho : s'.os = s.os) (u : Un (frs X.stack) ch H H' s.heap s'.heap) (hok : HOk X.prog X.w H' s'.heap) (hg : AllBare s'.gens)
    (hch : ∀ b ∈ ch, (b ∈ X.ex ∨ X.s₀.heap.objs.size ≤ b) ∧ b ≠ X.env.locals ∧ (∀ x c, X.env.cells.lookup x = some c → c ≠ b) ∧ ∀ p ∈ X.pn ++ pins, p.1 ≠ b) : Inv X pins σ H' s' := by
  obtain ⟨h', g', d', t', o'⟩ := s'
  have e : o' = s.os := ho
  subst e
  exact I.call (g' := g') (t' := t') (d' := d') u hok hg hch
end

/-- an exception: its class, its own dict's address (where it has one), the abstract heap behind it -/
abbrev XK := Value → Option Addr → Hp → Prop
abbrev St := List (Option V)
abbrev VK := V → Hp → Prop
/-- an expression's reading; a test's; an argument list's -/
abbrev TE := St → Hp → VK → Prop
abbrev TT := St → Hp → (Bool → Hp → Prop) → Prop
abbrev TA := St → Hp → (List V → Hp → Prop) → Prop
/-- what is wanted behind a statement -/
structure Ends where
  nx : St → Hp → Prop
  rt : VK
  bk : St → Hp → Prop := fun _ _ => False
  ct : St → Hp → Prop := fun _ _ => False
abbrev TS := Ends → St → Hp → Prop

def EP (X : Cx) (pins : List (Addr × Obj)) (σ : St) (Q : VK) (u : Value) (s' : Shared) : Prop := ∃ v H', Inv X pins σ H' s' ∧ RelV v u ∧ Q v H'
def TP (X : Cx) (pins : List (Addr × Obj)) (σ : St) (Q : Bool → Hp → Prop) (b : Bool) (s' : Shared) : Prop := ∃ H', Inv X pins σ H' s' ∧ Q b H'
def AP (X : Cx) (pins : List (Addr × Obj)) (σ : St) (Q : List V → Hp → Prop) (us : List Value) (s' : Shared) : Prop := ∃ vs H', Inv X pins σ H' s' ∧ Vals vs us ∧ Q vs H'
def SP (X : Cx) (pins : List (Addr × Obj)) (D : Ends) (f : Flow) (s' : Shared) : Prop :=
  match f with
  | .next => ∃ σ' H', Inv X pins σ' H' s' ∧ D.nx σ' H'
  | .brk => ∃ σ' H', Inv X pins σ' H' s' ∧ D.bk σ' H'
  | .cont => ∃ σ' H', Inv X pins σ' H' s' ∧ D.ct σ' H'
  | .ret u => ∃ v σ' H', Inv X pins σ' H' s' ∧ RelV v u ∧ D.rt v H'

def PE (X : Cx) (e : Expr) (t : TE) : Prop :=
  ∀ (pins : List (Addr × Obj)) (s : Shared) (σ : St) (H : Hp) (Q : VK), Inv X pins σ H s → t σ H Q → wpAny (model X.prog X.w) X.A (eval e X.env) (EP X pins σ Q) X.xe s
def PT (X : Cx) (e : Expr) (t : TT) : Prop :=
  ∀ (pins : List (Addr × Obj)) (s : Shared) (σ : St) (H : Hp) (Q : Bool → Hp → Prop), Inv X pins σ H s → t σ H Q → wpAny (model X.prog X.w) X.A (isTrue e X.env (eval e X.env)) (TP X pins σ Q) X.xe s
/-- a test whatever its 'whole' is (and, or) -/
def PW (X : Cx) (e : Expr) (t : TT) : Prop :=
  ∀ (whole : Sem Value) (pins : List (Addr × Obj)) (s : Shared) (σ : St) (H : Hp) (Q : Bool → Hp → Prop), Inv X pins σ H s → t σ H Q → wpAny (model X.prog X.w) X.A (isTrue e X.env whole) (TP X pins σ Q) X.xe s
theorem PW.pt {X : Cx} {e : Expr} {t : TT} (h : PW X e t) : PT X e t := h _
/-- an argument list (no star), from the left -/
def PA (X : Cx) (es : List Expr) (t : TA) : Prop :=
  ∀ (pos : Pos) (pins : List (Addr × Obj)) (s : Shared) (σ : St) (H : Hp) (Q : List V → Hp → Prop), Inv X pins σ H s → t σ H Q → wpAny (model X.prog X.w) X.A (spliced (backTo pos (starEach es X.env))) (AP X pins σ Q) X.xe s
def PS (X : Cx) (st : Stmt) (t : TS) : Prop :=
  ∀ (pins : List (Addr × Obj)) (s : Shared) (σ : St) (H : Hp) (D : Ends), Inv X pins σ H s → t D σ H → wpAny (model X.prog X.w) X.A (exec st X.env) (SP X pins D) X.xe s
def PSs (X : Cx) (st : List Stmt) (t : TS) : Prop :=
  ∀ (pins : List (Addr × Obj)) (s : Shared) (σ : St) (H : Hp) (D : Ends), Inv X pins σ H s → t D σ H → wpAny (model X.prog X.w) X.A (execs st X.env) (SP X pins D) X.xe s
/-- weaken the end -/
theorem thn {α : Type} {t : Sem α} {Q Q' : α → Shared → Prop} {M : Model} {A : Around} {E : Value → Shared → Prop} {s : Shared} (h : wpAny M A t Q E s) (hQ : ∀ a s, Q a s → Q' a s) : wpAny M A t Q' E s := wpAny_mono h hQ fun _ _ x => x
end L2

namespace L2
open PySem PySem.Spec PyProof.Rows
section
variable {X : Cx}

def tVar (i : Nat) : TE := fun σ H Q => ∃ v, σ[i]? = some (some v) ∧ Q v H
def tC (v : V) : TE := fun _ H Q => Q v H
theorem pe_var {i : Nat} {x : Str} {pos : Pos} (hN : X.N[i]? = some x) (hv : Vis X.env.scope x) (hd : (x == ("__debug__" : Str)) = false := by decide) (hcd : (x == ("__classdict__" : Str)) = false := by decide) : PE X (.Name x pos) (tVar i) := by
  intro pins s σ H Q I h
  obtain ⟨v, e, h⟩ := h
  obtain ⟨m, hn, hl⟩ := I.loc
  obtain ⟨u, r, l⟩ := hl i x v hN e hv
  have fin : EP X pins σ Q u s := ⟨v, H, I, r, h⟩
  rcases l with ⟨hk, hm⟩ | ⟨hk, c, hc, hcell⟩
  · exact wpAny_Name (wpAny_loadName_local I.ok.kind hk hn hm fin) hd
  · rcases hk with hk | hk
    · exact wpAny_Name (wpAny_loadName_cell I.ok.kind hk hc hcell fin) hd
    · exact wpAny_Name (wpAny_loadName_free I.ok.kind hk hc hcell fin hcd) hd
theorem pe_int {i j pos} : PE X (.Constant (.int i) j pos) (tC (.int i)) := fun _ _ _ H _ I h => wpAny_Constant_int ⟨.int i, H, I.tok _, ⟨_, rfl⟩, h⟩
theorem pe_bl {b j pos} : PE X (.Constant (.bool b) j pos) (tC (.bl b)) := fun _ _ _ H _ I h => Constant_bool ⟨.bl b, H, I, rfl, h⟩
theorem pe_non {j pos} : PE X (.Constant .none j pos) (tC .non) := fun _ _ _ H _ I h => Constant_none ⟨.non, H, I, rfl, h⟩
theorem pe_str {x j pos} : PE X (.Constant (.str x) j pos) (tC (.str x)) := fun _ _ _ H _ I h => Calls.Constant_str ⟨.str x, H, I.tok _, ⟨_, rfl⟩, h⟩

/-- a global name of the def -/
def Gl (X : Cx) (x : Str) : Prop := X.env.kindOf x = some .globalImplicit
theorem ld_glob {E : Value → Shared → Prop} {pins : List (Addr × Obj)} {s : Shared} {σ : St} {H : Hp} {x : Str} {u : Value} {pos : Pos} {Q : Value → Shared → Prop} (I : Inv X pins σ H s) (hg : Gl X x) (hm : X.mg x = some u) (h : Q u s)
    (hd : (x == ("__debug__" : Str)) = false := by decide) : wpAny (model X.prog X.w) X.A (eval (.Name x pos) X.env) Q E s :=
  Calls.Name_function_global I.ok.kind hg (Calls.loadGlobal_global (by rw [I.ok.glob]; exact I.mod.glob.keeps I.bk) hm h) hd
theorem ld_blt {E : Value → Shared → Prop} {pins : List (Addr × Obj)} {s : Shared} {σ : St} {H : Hp} {x : Str} {u : Value} {pos : Pos} {Q : Value → Shared → Prop} (I : Inv X pins σ H s) (hg : Gl X x) (hm : X.mg x = none) (hv : bootBuiltins x = some u) (h : Q u s)
    (hn : x ≠ "__name__" := by decide) (hd : (x == ("__debug__" : Str)) = false := by decide) : wpAny (model X.prog X.w) X.A (eval (.Name x pos) X.env) Q E s := by
  obtain ⟨mb, h1, h2⟩ := I.mod.blt
  exact Calls.Name_function_global I.ok.kind hg (Calls.loadGlobal_builtin (by rw [I.ok.glob]; exact I.mod.glob.keeps I.bk) hm (by rw [I.ok.blt]; exact h1.keeps I.bk) ((h2 x hn).trans hv) h) hd
/-- a module's constant, a class, a function, as a value -/
theorem pe_glob {x : Str} {v : V} {u : Value} {pos : Pos} (hg : Gl X x) (hm : X.mg x = some u) (r : RelV v u) (hd : (x == ("__debug__" : Str)) = false := by decide) : PE X (.Name x pos) (tC v) :=
  fun _ _ _ H _ I h => ld_glob I hg hm ⟨v, H, I, r, h⟩ hd
theorem pe_bltn {x : Str} {v : V} {u : Value} {pos : Pos} (hg : Gl X x) (hm : X.mg x = none) (hv : bootBuiltins x = some u) (r : RelV v u) (hn : x ≠ "__name__" := by decide) (hd : (x == ("__debug__" : Str)) = false := by decide) : PE X (.Name x pos) (tC v) :=
  fun _ _ _ H _ I h => ld_blt I hg hm hv ⟨v, H, I, r, h⟩ hn hd

variable {a b : Expr} {ta tb : TE} {pos : Pos}
/-- a comparison as a value, as a test -/
def tB (t : TE) : TT := fun σ H Q => t σ H fun x H1 => ∃ c, x = .bl c ∧ Q c H1
/-- an expression whose value is a bool, as a test -/
theorem pt_val {e : Expr} {t : TE} (h : PE X e t) (he : ∀ whole, isTrue e X.env whole = (do let v ← whole; standAt e.pos; holding [v] (truthy v)) := by intro _; rfl) : PT X e (tB t) := by
  intro pins s σ H Q I hw
  refine isTrue_plain (thn (h pins s σ H _ I hw) fun v s1 ⟨x, H1, I1, r1, q1⟩ => ?_) (he _)
  obtain ⟨d, rfl, q⟩ := q1
  cases r1
  exact wpAny_truthy_bool ⟨H1, I1, q⟩

variable {tA tB' : TT} {rest : List Expr}
def tAnd (t u : TT) : TT := fun σ H Q => t σ H fun c H1 => if c = true then u σ H1 Q else Q false H1
def tOr (t u : TT) : TT := fun σ H Q => t σ H fun c H1 => if c = true then Q true H1 else u σ H1 Q
def tNot (t : TT) : TT := fun σ H Q => t σ H fun c H1 => Q (!c) H1
theorem pt_not (ha : PT X a tA) : PT X (.UnaryOp .Not a pos) (tNot tA) := by
  intro pins s σ H Q I h
  exact isTrue_not (ha pins s σ H (fun c H1 => Q (!c) H1) I h)
/-- .. as values (bools) -/
def tAndV (ta tb : TE) : TE := fun σ H Q => ta σ H fun x H1 => ∃ c, x = .bl c ∧ if c = true then tb σ H1 Q else Q (.bl false) H1
def tOrV (ta tb : TE) : TE := fun σ H Q => ta σ H fun x H1 => ∃ c, x = .bl c ∧ if c = true then Q (.bl true) H1 else tb σ H1 Q
def tNotV (ta : TE) : TE := fun σ H Q => ta σ H fun x H1 => ∃ c, x = .bl c ∧ Q (.bl (!c)) H1
theorem pe_one {op} {t : TE} (h : PE X a t) : PE X (.BoolOp op [a] pos) t := fun pins s σ H Q I hw => BoolOp_one (h pins s σ H Q I hw)
theorem pe_and (ha : PE X a ta) (hb : PE X (.BoolOp .And (b :: rest) pos) tb) : PE X (.BoolOp .And (a :: b :: rest) pos) (tAndV ta tb) := by
  intro pins s σ H Q I h
  refine BoolOp_and (thn (ha pins s σ H _ I h) fun v s1 ⟨x, H1, I1, r1, q1⟩ => ?_)
  obtain ⟨c, rfl, q1⟩ := q1
  cases r1
  refine wpAny_truthy_bool ?_
  cases c with
  | true => exact hb pins s1 σ H1 Q I1 q1
  | false => exact ⟨.bl false, H1, I1, rfl, q1⟩
theorem pe_not (ha : PE X a ta) : PE X (.UnaryOp .Not a pos) (tNotV ta) := by
  intro pins s σ H Q I h
  refine UnaryOp_ (thn (ha pins s σ H _ I h) fun v s1 ⟨x, H1, I1, r1, q1⟩ => ?_)
  obtain ⟨c, rfl, q1⟩ := q1
  cases r1
  exact not_of (wpAny_truthy_bool ⟨.bl (!c), H1, I1, rfl, q1⟩)
/-- a if t else b -/
def tIf (t : TT) (ta tb : TE) : TE := fun σ H Q => t σ H fun c H1 => if c = true then ta σ H1 Q else tb σ H1 Q
theorem pe_ifExp {c : Expr} (hc : PT X c tA) (ha : PE X a ta) (hb : PE X b tb) : PE X (.IfExp c a b pos) (tIf tA ta tb) := by
  intro pins s σ H Q I h
  refine wpAny_IfExp (thn (hc pins s σ H _ I h) fun d s1 ⟨H1, I1, q1⟩ => ?_)
  cases d with
  | true => exact ha pins s1 σ H1 Q I1 q1
  | false => exact hb pins s1 σ H1 Q I1 q1
end
end L2

namespace L2
open PySem PySem.Spec PyProof.Rows

def SqL (K : PySem.W.Frag) (H : Hp) (a : Addr) (xs : List V) : Prop :=
  Rd H a (.lst xs) ∨
    ∃ (o : Obj) (its : Array Value) (n : Nat), K.lookup a = some o ∧ o.cls = .type "list" ∧ o.dict = none ∧ o.data = .seq its n ∧ its.size ≤ sizeLine ∧ Vals xs its.toList
def SqT (K : PySem.W.Frag) (H : Hp) (a : Addr) (xs : List V) : Prop :=
  Rd H a (.tup xs) ∨
    ∃ (o : Obj) (its : Array Value) (n : Nat), K.lookup a = some o ∧ o.cls = .type "tuple" ∧ o.data = .seq its n ∧ its.size ≤ sizeLine ∧ Vals xs its.toList
def absV : Value → Option V
  | .none => some .non
  | .bool b => some (.bl b)
  | .int i _ => some (.int i)
  | .str x _ => some (.str x)
  | .bytes b _ => some (.byt b)
  | .float b _ => some (.flt b)
  | .ref a => some (.ref a)
  | .type n => some (.ty n)
  | _ => none
theorem RelV.abs {x : V} {u : Value} (r : RelV x u) : absV u = some x := by
  cases x with
  | non => cases r; rfl
  | bl _ => cases r; rfl
  | int _ => obtain ⟨t, rfl⟩ := r; rfl
  | str _ => obtain ⟨t, rfl⟩ := r; rfl
  | byt _ => obtain ⟨t, rfl⟩ := r; rfl
  | flt _ => obtain ⟨t, rfl⟩ := r; rfl
  | ref _ => cases r; rfl
  | ty _ => cases r; rfl
theorem RelV.inj {x y : V} {u : Value} (r : RelV x u) (q : RelV y u) : x = y := Option.some.inj (r.abs.symm.trans q.abs)
theorem Vals.inj : ∀ {xs ys : List V} {us : List Value}, Vals xs us → Vals ys us → xs = ys
  | _, _, _, .nil, .nil => rfl
  | _, _, _, .cons r t, .cons r' t' => by rw [r.inj r', Vals.inj t t']
section
variable {X : Cx} {pins : List (Addr × Obj)} {σ : St} {H : Hp} {s : Shared} {a : Addr} {xs ys : List V}
theorem SqL.of {K : PySem.W.Frag} (h : H a = some (.lst xs)) : SqL K H a xs := .inl (.inl h)
theorem SqT.of {K : PySem.W.Frag} (h : H a = some (.tup xs)) : SqT K H a xs := .inl (.inl h)
theorem Inv.list (I : Inv X pins σ H s) (h : SqL X.K H a xs) : ∃ its : List Value, Vals xs its ∧ PlainL s.heap a its.toArray ∧ xs.length ≤ sizeLine := by
  rcases h with h | ⟨o, its, n, hk, hc, hd, hs, hz, r⟩
  · obtain ⟨z, its, n, r, e⟩ := h.ok I.hok
    exact ⟨its, r, ⟨_, n, e, rfl, rfl, rfl⟩, z⟩
  · refine ⟨its.toList, r, ⟨o, n, I.kIn a o hk, hc, hd, by simpa using hs⟩, ?_⟩
    have e := r.length
    simp only [Array.length_toList] at e
    omega
theorem Inv.tuple (I : Inv X pins σ H s) (h : SqT X.K H a xs) : ∃ its : List Value, Vals xs its ∧ IsTup s.heap a its.toArray ∧ xs.length ≤ sizeLine := by
  rcases h with h | ⟨o, its, n, hk, hc, hs, hz, r⟩
  · obtain ⟨z, its, r, p⟩ := h.ok I.hok
    exact ⟨its, r, p, z⟩
  · refine ⟨its.toList, r, ⟨o, I.kIn a o hk, hc, n, by simpa using hs⟩, ?_⟩
    have e := r.length
    simp only [Array.length_toList] at e
    omega
theorem Inv.list_inj (I : Inv X pins σ H s) (h : SqL X.K H a xs) (h' : SqL X.K H a ys) : xs = ys := by
  obtain ⟨its, r, ⟨o, n, e, _, _, d⟩, _⟩ := I.list h
  obtain ⟨its', r', ⟨o', n', e', _, _, d'⟩, _⟩ := I.list h'
  rw [e] at e'; cases e'
  rw [d] at d'
  injection d' with d1 _
  have : its = its' := by simpa using congrArg Array.toList d1
  subst this
  exact r.inj r'
end

abbrev Cx.wish (X : Cx) (E : Value → Shared → Prop) : Cx := { X with xe := E }
/-- no exception leaves -/
abbrev Cx.nox (X : Cx) : Cx := X.wish fun _ _ => False
theorem Cx.Ok.wish {X : Cx} (ok : X.Ok) (E : Value → Shared → Prop) : (X.wish E).Ok :=
  ⟨ok.mod, ok.kind, ok.glob, ok.blt, ok.above, ok.inj, ok.has, ok.cab, ok.hd, ok.frames, ok.stk, ok.exf, ok.bs, ok.bsz, ok.noex, ok.exfs, ok.funs, ok.frf⟩
theorem Cx.Ok.unwish {X : Cx} {E : Value → Shared → Prop} (ok : (X.wish E).Ok) : X.Ok :=
  ⟨ok.mod, ok.kind, ok.glob, ok.blt, ok.above, ok.inj, ok.has, ok.cab, ok.hd, ok.frames, ok.stk, ok.exf, ok.bs, ok.bsz, ok.noex, ok.exfs, ok.funs, ok.frf⟩
section
variable {X : Cx} {pins : List (Addr × Obj)} {σ : St} {H : Hp} {s : Shared} {E : Value → Shared → Prop}
theorem Inv.wish (I : Inv X pins σ H s) (E : Value → Shared → Prop) : Inv (X.wish E) pins σ H s := ⟨I.ok.wish E, I.os, I.bare, I.base, I.loc, I.cell, I.free, I.freeC, I.pin, I.hok, I.len⟩
theorem Inv.unwish (I : Inv (X.wish E) pins σ H s) : Inv X pins σ H s := ⟨I.ok.unwish, I.os, I.bare, I.base, I.loc, I.cell, I.free, I.freeC, I.pin, I.hok, I.len⟩
theorem SP.unwish {D : Ends} {f : Flow} {s' : Shared} (h : SP (X.wish E) pins D f s') : SP X pins D f s' := by
  cases f with
  | next => obtain ⟨σ', H', I, q⟩ := h; exact ⟨σ', H', I.unwish, q⟩
  | brk => obtain ⟨σ', H', I, q⟩ := h; exact ⟨σ', H', I.unwish, q⟩
  | cont => obtain ⟨σ', H', I, q⟩ := h; exact ⟨σ', H', I.unwish, q⟩
  | ret u => obtain ⟨v, σ', H', I, r, q⟩ := h; exact ⟨v, σ', H', I.unwish, r, q⟩
theorem PE.nox {e : Expr} {t : TE} (h : PE X.nox e t) : PE X e t := fun pins s σ H Q I hw =>
  wpAny_mono (h pins s σ H Q (I.wish _) hw) (fun _ _ ⟨v, H', I', r, q⟩ => ⟨v, H', I'.unwish, r, q⟩) fun _ _ z => False.elim z
theorem PT.nox {e : Expr} {t : TT} (h : PT X.nox e t) : PT X e t := fun pins s σ H Q I hw =>
  wpAny_mono (h pins s σ H Q (I.wish _) hw) (fun _ _ ⟨H', I', q⟩ => ⟨H', I'.unwish, q⟩) fun _ _ z => False.elim z
theorem PSs.nox {st : List Stmt} {t : TS} (h : PSs X.nox st t) : PSs X st t := fun pins s σ H D I hw =>
  wpAny_mono (h pins s σ H D (I.wish _) hw) (fun _ _ q => q.unwish) fun _ _ z => False.elim z
end

section
variable {X : Cx} {st : Stmt} {rest : List Stmt} {t u : TS} {e : Expr} {te : TE} {pos : Pos}
def tNext : TS := fun D σ H => D.nx σ H
def tSeq (t u : TS) : TS := fun D σ H => t { D with nx := u D } σ H
theorem pss_nil : PSs X [] tNext := fun _ _ σ H _ I h => wpAny_execs_nil ⟨σ, H, I, h⟩
theorem pss_cons (h1 : PS X st t) (h2 : PSs X rest u) : PSs X (st :: rest) (tSeq t u) := by
  intro pins s σ H D I h
  refine wpAny_execs_cons (thn (h1 pins s σ H { D with nx := u D } I h) fun f s1 q => ?_)
  cases f with
  | next =>
    obtain ⟨σ', H', I', q⟩ := q
    exact h2 pins s1 σ' H' D I' q
  | ret v => exact q
  | brk => exact q
  | cont => exact q
theorem pss_one (h1 : PS X st t) : PSs X [st] t := by
  intro pins s σ H D I h
  refine wpAny_execs_cons (thn (h1 pins s σ H D I h) fun f s1 q => ?_)
  cases f with
  | next => exact wpAny_execs_nil q
  | ret v => exact q
  | brk => exact q
  | cont => exact q
/-- in a def's body nothing is shown -/
theorem Inv.quiet {pins : List (Addr × Obj)} {σ : St} {H : Hp} {s : Shared} (I : Inv X pins σ H s) : interactive X.env = false := by simp [interactive, I.ok.kind]
/-- an expression whose value is dropped -/
def tDrop (te : TE) : TS := fun D σ H => te σ H fun _ H1 => D.nx σ H1
theorem ps_expr (he : PE X e te) (hs : swapsWith e none pos.line X.env = pure false := by rfl) : PS X (.Expr e pos) (tDrop te) := by
  intro pins s σ H D I h
  exact wpAny_Expr_any (thn (he pins s σ H _ I h) fun v s1 ⟨x, H1, I1, r1, q1⟩ => ⟨σ, H1, I1, q1⟩) I.quiet hs
def tRet (te : TE) : TS := fun D σ H => te σ H D.rt
theorem ps_ret (he : PE X e te) : PS X (.Return (some e) pos) (tRet te) := by
  intro pins s σ H D I h
  exact wpAny_Return_some (thn (he pins s σ H _ I h) fun v s1 ⟨x, H1, I1, r1, q1⟩ => ⟨x, σ, H1, I1, r1, q1⟩)
def tRetN : TS := fun D _ H => D.rt .non H
def tIfS (c : TT) (t u : TS) : TS := fun D σ H => c σ H fun b H1 => if b = true then t D σ H1 else u D σ H1
theorem ps_if {c : Expr} {a b : List Stmt} {tc : TT} (hc : PT X c tc) (ha : PSs X a t) (hb : PSs X b u) : PS X (.If c a b pos) (tIfS tc t u) := by
  intro pins s σ H D I h
  refine wpAny_If (thn (hc pins s σ H _ I h) fun d s1 ⟨H1, I1, q1⟩ => ?_)
  cases d with
  | true => exact ha pins s1 σ H1 D I1 q1
  | false => exact hb pins s1 σ H1 D I1 q1
end

abbrev TG := V → St → Hp → (St → Hp → Prop) → Prop
abbrev TGs := List V → St → Hp → (St → Hp → Prop) → Prop
def PG (X : Cx) (target : Expr) (t : TG) : Prop :=
  ∀ (pins : List (Addr × Obj)) (s : Shared) (σ : St) (H : Hp) (v : V) (u : Value) (Q : St → Hp → Prop), Inv X pins σ H s → RelV v u → t v σ H Q →
    wpAny (model X.prog X.w) X.A (assign target X.env u) (fun _ s' => ∃ σ' H', Inv X pins σ' H' s' ∧ Q σ' H') X.xe s
/-- several targets, one after another -/
def PGs (X : Cx) (ts : List Expr) (t : TGs) : Prop :=
  ∀ (pins : List (Addr × Obj)) (s : Shared) (σ : St) (H : Hp) (vs : List V) (us : List Value) (Q : St → Hp → Prop), Inv X pins σ H s → Vals vs us → t vs σ H Q →
    wpAny (model X.prog X.w) X.A (assignInOrder ((assignEach ts X.env).map (·.2)) us) (fun _ s' => ∃ σ' H', Inv X pins σ' H' s' ∧ Q σ' H') X.xe s
/-- o[i] = v, by values -/
abbrev TSet := V → V → V → Hp → (Hp → Prop) → Prop
section
variable {X : Cx} {pos : Pos}
def gName (i : Nat) : TG := fun v σ H Q => Q (σ.set i (some v)) H
theorem pg_name {i : Nat} {x : Str} (hN : X.N.Nodup) (hi : X.N[i]? = some x) (hx : Loc X.env.scope x) (hf : X.fn x = true ∨ X.env.scope.names.lookup x = some .local := by first | exact .inl rfl | exact .inr rfl | assumption) : PG X (.Name x pos) (gName i) := by
  intro pins s σ H v u Q I r h
  exact wpAny_assign_Name (store_ok I hN hi hx r (fun s' I' => ⟨_, H, I', h⟩) hf)
def gNil : TGs := fun vs σ H Q => vs = [] ∧ Q σ H
def gCons (t : TG) (u : TGs) : TGs := fun vs σ H Q => ∃ v r, vs = v :: r ∧ t v σ H fun σ' H' => u r σ' H' Q
theorem pgs_nil : PGs X [] gNil := by
  intro pins s σ H vs us Q I r h
  obtain ⟨e, h⟩ := h
  subst e
  cases r
  exact assignInOrder_nil ⟨σ, H, I, h⟩
theorem pgs_cons {e : Expr} {es : List Expr} {t : TG} {u : TGs} (h1 : PG X e t) (h2 : PGs X es u)
    (hs : (assignEach (e :: es) X.env).map (·.2) = assign e X.env :: (assignEach es X.env).map (·.2) := by rfl) : PGs X (e :: es) (gCons t u) := by
  intro pins s σ H vs us Q I r h
  obtain ⟨v, vr, e1, h⟩ := h
  subst e1
  cases r with
  | cons r rr =>
    rw [hs]
    refine assignInOrder_cons (thn (h1 pins s σ H _ _ _ I r h) fun _ s1 ⟨σ1, H1, I1, q1⟩ => ?_)
    exact h2 pins s1 σ1 H1 _ _ Q I1 rr q1
/-- (a, b, ..) = a tuple of that length -/
def gTup (K : PySem.W.Frag) (n : Nat) (t : TGs) : TG := fun v σ H Q => ∃ a xs, v = .ref a ∧ SqT K H a xs ∧ xs.length = n ∧ t xs σ H Q
theorem pg_tup {es : List Expr} {k : Nat} {t : TGs} {n : Nat} (hc : X.calm = true) (h : PGs X es t)
    (hn : (assignEach es X.env).length = n := by rfl) (hst : (assignEach es X.env).findIdx? (·.1) = none := by rfl) : PG X (.Tuple es k pos) (gTup X.K n t) := by
  intro pins s σ H v u Q I r hw
  obtain ⟨a, xs, e1, hq, hl, hw⟩ := hw
  subst e1
  cases r
  obtain ⟨its, rv, ht, hz⟩ := I.tuple hq
  refine assign_Tuple_tuple (I.ok.hd hc) ht (by simp [hn, ← hl, rv.length]) hst fun h' hx => ?_
  have I1 : Inv X pins σ H { s with heap := h' } := I.kept (t' := s.toks) fun b o e => hx b o (Nat.ne_of_lt (Heap.lt_size e)) e
  exact h pins _ σ H xs _ Q I1 (by simpa using rv) hw
/-- o[i] = .. -/
def gSub (to ti : TE) (t : TSet) : TG := fun v σ H Q => to σ H fun o H1 => ti σ H1 fun i H2 => t o i v H2 fun H3 => Q σ H3
/-- target = value -/
def tAsg (te : TE) (g : TG) : TS := fun D σ H => te σ H fun x H1 => g x σ H1 D.nx
/-- name = value -/
theorem ps_set {i : Nat} {x : Str} {e : Expr} {te : TE} {pos' : Pos} (hN : X.N.Nodup) (hi : X.N[i]? = some x) (hx : Loc X.env.scope x) (he : PE X e te) (hs : swapsWith e (some (.Name x pos')) pos.line X.env = pure false := by rfl) (hf : X.fn x = true ∨ X.env.scope.names.lookup x = some .local := by first | exact .inl rfl | exact .inr rfl | assumption) :
    PS X (.Assign [.Name x pos'] e pos) (tAsg te (gName i)) := by
  intro pins s σ H D I h
  refine wpAny_Assign_Name (thn (he pins s σ H _ I h) fun v s1 ⟨y, H1, I1, r1, q1⟩ => ?_) hs
  exact store_ok I1 hN hi hx r1 (fun s2 I2 => ⟨_, H1, I2, q1⟩) hf
/-- a, b = x, y with plain local names: stored from the right; the pair itself is not tracked (the opening rows as in PyProof/Rows/TupAssign.lean:23) -/
def tPar (i j : Nat) (ta : TA) : TS := fun D σ H => ta σ H fun vs H1 => ∃ v w, vs = [v, w] ∧ D.nx ((σ.set i (some v)).set j (some w)) H1
end

section
variable {X : Cx} {pos : Pos}
end

/-- at turn i: it yields x (the heap may grow), or it stops -/
structure It where
  go : Nat → Hp → Prop
  yld : Nat → Hp → V → Hp → Prop
  stop : Nat → Hp → Prop
/-- the iterator's own objects may turn: they are not the frame's, not pinned, younger than the entry (or a comprehension's own) -/
def FpOk (X : Cx) (pins : List (Addr × Obj)) (H : Hp) (b : Addr) : Prop :=
  H b = none ∧ b ≠ X.env.locals ∧ b ∉ X.fs ∧ (b ∈ X.ex ∨ X.s₀.heap.objs.size ≤ b) ∧ (∀ x c, X.env.cells.lookup x = some c → c ≠ b) ∧ ∀ p ∈ X.pn ++ pins, p.1 ≠ b
theorem Inv.fpOk {X : Cx} {pins : List (Addr × Obj)} {σ : St} {H H' : Hp} {s : Shared} {b : Addr} (I : Inv X pins σ H s) (hb : s.heap.objs.size ≤ b) (hn : H' b = none) : FpOk X pins H' b := by
  refine ⟨hn, Nat.ne_of_gt (Nat.lt_of_lt_of_le I.lt hb), I.nofs hb, .inr (Nat.le_trans I.sz hb), fun x c e z => ?_, fun p hp z => ?_⟩
  · obtain ⟨v, q⟩ := I.cell x c e
    exact absurd (Nat.lt_of_lt_of_le q.lt (by rw [z]; exact hb)) (Nat.lt_irrefl _)
  · exact absurd (Nat.lt_of_lt_of_le (Heap.lt_size (I.pin p hp).1) (by rw [z]; exact hb)) (Nat.lt_irrefl _)
structure Turn (P : Program) (w : World) (K : PySem.W.Frag) (tg : Expr) (J : It) (fp : List Addr) (it : Addr) (tn : Nat → Heap → Prop) : Prop where
  mem : it ∈ fp
  obj : ∀ i h, tn i h → ∀ b ∈ fp, ∃ o, h.get? b = some o ∧ ∀ v, o.data ≠ .cell v
  keep : ∀ i h h', tn i h → (∀ b ∈ fp, ∀ o, h.get? b = some o → h'.get? b = some o) → tn i h'
  item : ∀ (X : Cx), X.prog = P → X.w = w → X.K = K → X.calm = true → ∀ (i : Nat) (pins : List (Addr × Obj)) (s : Shared) (σ : St) (H : Hp) (E : Value → Shared → Prop), Inv X pins σ H s → (∀ b ∈ fp, FpOk X pins H b) → tn i s.heap → J.go i H →
    wpAny (model P w) X.A (pyNext (.ref it)) (fun r s1 => ∃ u, r = some u ∧
      wpAny (model P w) X.A (letOwnedTupleGo tg (.ref it) u) (fun _ s2 => ∃ x H', Inv X pins σ H' s2 ∧ RelV x u ∧ J.yld i H x H' ∧ tn (i + 1) s2.heap ∧ ∀ b ∈ fp, H' b = none) E s1) E s
  done : ∀ (X : Cx), X.prog = P → X.w = w → X.K = K → X.calm = true → ∀ (i : Nat) (pins : List (Addr × Obj)) (s : Shared) (σ : St) (H : Hp) (E : Value → Shared → Prop), Inv X pins σ H s → (∀ b ∈ fp, FpOk X pins H b) → tn i s.heap → J.stop i H →
    wpAny (model P w) X.A (pyNext (.ref it)) (fun r s1 => r = none ∧ Inv X pins σ H s1) E s
  self : ∀ (A : Around) (i : Nat) (s : Shared) (Q : Value → Shared → Prop) (E : Value → Shared → Prop), tn i s.heap → Q (.ref it) s → wpAny (model P w) A (pyIter (.ref it)) Q E s
abbrev TI := St → Hp → (It → Hp → Prop) → Prop
/-- an iterator has come -/
def PIE (X : Cx) (pins : List (Addr × Obj)) (σ : St) (tg : Expr) (R : It → Hp → Prop) (itv : Value) (s2 : Shared) : Prop :=
  ∃ (it : Addr) (fp : List Addr) (tn : Nat → Heap → Prop) (J : It) (H' : Hp), itv = .ref it ∧ Inv X pins σ H' s2 ∧ Turn X.prog X.w X.K tg J fp it tn ∧ tn 0 s2.heap ∧ (∀ b ∈ fp, FpOk X pins H' b) ∧ R J H'
def PI (X : Cx) (tg iter : Expr) (wi : TI) : Prop :=
  ∀ (pins : List (Addr × Obj)) (s : Shared) (σ : St) (H : Hp) (R : It → Hp → Prop), Inv X pins σ H s → wi σ H R →
    wpAny (model X.prog X.w) X.A (eval iter X.env) (fun v s1 => wpAny (model X.prog X.w) X.A (pyIter v) (PIE X pins σ tg R) X.xe s1) X.xe s

/-- the step ahead of the store is nothing for an iterator that keeps no tuple -/
theorem go_of {M : Model} {A : Around} {E : Value → Shared → Prop} {s : Shared} {tg : Expr} {it : Addr} {u : Value} {o : Obj} {n : String} {vs : Array Value} {Q : Unit → Shared → Prop} (ho : s.heap.get? it = some o) (hc : o.cls = .type n) (hd : o.data = .fields vs)
    (hn : ["enumerate", "zip", "dict_itemiterator", "dict_reverseitemiterator", "odict_iterator", "itertools.zip_longest", "itertools.pairwise"].contains n = false) (hQ : Q () s) : wpAny M A (letOwnedTupleGo tg (.ref it) u) Q E s := by
  unfold letOwnedTupleGo
  cases tg <;> first
    | exact wpAny_pure hQ
    | (cases u <;> first
        | exact wpAny_pure hQ
        | (refine wpAny_bind (wpAny_load ho ?_)
           rw [hc, hd]
           show wpAny M A (if (["enumerate", "zip", "dict_itemiterator", "dict_reverseitemiterator", "odict_iterator", "itertools.zip_longest", "itertools.pairwise"].contains n && vs[0]? == some (rawInt _)) = true then _ else _) Q E s
           rw [if_neg (by intro h; rw [hn, Bool.false_and] at h; cases h)]
           exact wpAny_pure hQ))

/-- the list at a, as it stands at each turn (a loop may append to it) -/
def Itl (K : PySem.W.Frag) (a : Addr) : It :=
  ⟨fun i H => ∃ xs x, SqL K H a xs ∧ xs[i]? = some x, fun i H x H' => H' = H ∧ ∀ xs, SqL K H a xs → xs[i]? = some x, fun i H => ∃ xs, SqL K H a xs ∧ xs.length ≤ i⟩
/-- lo, lo + 1, .. (n of them) -/
def Itr (lo : Int) (n : Nat) : It := ⟨fun i _ => i < n, fun i H x H' => H' = H ∧ x = .int (lo + i), fun i _ => n ≤ i⟩
theorem turn_list {P : Program} {w : World} {K : PySem.W.Frag} {tg : Expr} (a it : Addr) : Turn P w K tg (Itl K a) [it] it (fun i h => h.IsListIter it a i) where
  mem := by simp
  obj := fun i h st b hb => by
    have e : b = it := by simpa using hb
    subst e
    obtain ⟨o, e, c, d⟩ := st
    exact ⟨o, e, fun v z => by rw [d] at z; cases z⟩
  keep := fun i h h' st k => st.at fun o e => k it (by simp) o e
  item := by
    intro X hP hw hK hc i pins s σ H E I hf st hg
    subst hP hw hK
    obtain ⟨xs, x, hq, hx⟩ := hg
    obtain ⟨its, rv, p, hz⟩ := I.list hq
    obtain ⟨u, hu, ru⟩ := rv.get hx
    obtain ⟨f0, f1, f2, f3, f4, f5⟩ := hf it (by simp)
    refine wpAny_pyNext_list_item st p.isList (x := u) (by simpa using hu) fun h' st' sb => ?_
    have I1 : Inv X pins σ H { s with heap := h' } := I.turned (t' := s.toks) (fun b o hb e => (sb.2 b hb).trans e) f0 f1 f3 f4 f5
    obtain ⟨o, e, c, d⟩ := id st'
    exact ⟨u, rfl, go_of (s := { s with heap := h' }) e c d (by decide) ⟨x, H, I1, ru, ⟨rfl, fun ys hy => by rw [I.list_inj hy hq]; exact hx⟩, st', fun b hb => (hf b hb).1⟩⟩
  done := by
    intro X hP hw hK hc i pins s σ H E I hf st hg
    subst hP hw hK
    obtain ⟨xs, hq, hx⟩ := hg
    obtain ⟨its, rv, p, hz⟩ := I.list hq
    obtain ⟨f0, f1, f2, f3, f4, f5⟩ := hf it (by simp)
    have hl := rv.length
    exact wpAny_pyNext_list_end (I.ok.hd hc) st p.isList (by simp; omega) fun h' eb => ⟨rfl, I.turned (t' := s.toks) (fun b o hb e => eb b o hb e) f0 f1 f3 f4 f5⟩
  self := fun _ _ _ _ _ st h => wpAny_pyIter_listiter st h
theorem turn_range {P : Program} {w : World} {K : PySem.W.Frag} {tg : Expr} (it : Addr) (lo : Int) (n : Nat) : Turn P w K tg (Itr lo n) [it] it (fun i h => IsRangeIter h it (lo + (i : Nat) * 1) ((n : Int) - (i : Nat)) 1) where
  mem := by simp
  obj := fun i h st b hb => by
    have e : b = it := by simpa using hb
    subst e
    exact ⟨_, st, fun v z => by
      have z' : Data.fields _ = Data.cell v := z
      cases z'⟩
  keep := fun i h h' st k => k it (by simp) _ st
  item := by
    intro X hP hw hK hc i pins s σ H E I hf st hg
    subst hP hw hK
    obtain ⟨f0, f1, f2, f3, f4, f5⟩ := hf it (by simp)
    have W := Walks.range (prog := X.prog) (w := X.w) (I.ok.hd hc) it lo 1 n
    refine W.item i s _ _ hg st fun v h' tk hv st' kk => ?_
    obtain ⟨t, rfl⟩ := hv
    have I1 : Inv X pins σ H { s with heap := h', toks := tk } := I.turned (fun b o hb e => kk b o (by simpa using hb) e) f0 f1 f3 f4 f5
    refine ⟨_, rfl, go_of (s := { s with heap := h', toks := tk }) (n := "range_iterator") st' rfl rfl (by decide) ⟨.int (lo + i), H, I1, ⟨t, ?_⟩, ⟨rfl, rfl⟩, st', fun b hb => (hf b hb).1⟩⟩
    rw [Int.mul_one]
  done := by
    intro X hP hw hK hc i pins s σ H E I hf st hg
    subst hP hw hK
    obtain ⟨f0, f1, f2, f3, f4, f5⟩ := hf it (by simp)
    exact wpAny_pyNext_range_end (I.ok.hd hc) st (by have : n ≤ i := hg; omega) fun h' eb => ⟨rfl, I.turned (t' := s.toks) (fun b o hb e => eb b o hb e) f0 f1 f3 f4 f5⟩
  self := fun _ _ _ _ _ st h => wpAny_pyIter_rangeiter st h
end L2

namespace L2
open PySem PySem.Spec PyProof.Rows
section
variable {X : Cx} {tg : Expr}
def iList (K : PySem.W.Frag) (tl : TE) : TI := fun σ H R => tl σ H fun x H1 => ∃ a, x = .ref a ∧ (∃ xs, SqL K H1 a xs) ∧ R (Itl K a) H1
theorem pi_list {l : Expr} {tl : TE} (hl : PE X l tl) : PI X tg l (iList X.K tl) := by
  intro pins s σ H R I h
  refine thn (hl pins s σ H _ I h) fun v s1 ⟨x, H1, I1, r1, q1⟩ => ?_
  obtain ⟨a, e, ⟨xs, hq⟩, q⟩ := q1
  subst e
  cases r1
  obtain ⟨its, rv, p, hz⟩ := I1.list hq
  refine wpAny_pyIter_list p.isList ?_
  refine ⟨s1.heap.objs.size, [s1.heap.objs.size], _, _, H1, rfl, I1.kept (t' := s1.toks) fun b o e => Heap.get?_push_of_some _ e, turn_list a _, ⟨_, Heap.get?_push_size _ rfl, rfl, rfl⟩, fun b hb => ?_, q⟩
  have e : b = s1.heap.objs.size := by simpa using hb
  subst e
  exact I1.fpOk (Nat.le_refl _) (I1.hok.fresh (Nat.le_refl _))
/-- a range object just made, walked -/
theorem range_it {pins : List (Addr × Obj)} {σ : St} {H : Hp} {s : Shared} {R : It → Hp → Prop} {E : Value → Shared → Prop} {lo hi : Int} {t u v : Tok} {tk : Nat} (I : Inv X pins σ H s) (h1 : -(2 ^ 62) ≤ lo) (h2 : lo < 2 ^ 62) (h3 : -(2 ^ 62) ≤ hi) (h4 : hi < 2 ^ 62)
    (q : R (Itr lo (hi - lo).toNat) H) : wpAny (model X.prog X.w) X.A (pyIter (.ref s.heap.objs.size)) (PIE X pins σ tg R) E { s with heap := s.heap.push { cls := .type "range", data := .fields #[.int lo t, .int hi u, .int 1 v] }, toks := tk } := by
  refine wpAny_pyIter_range (IsRange.new ..) (small_one h1 h2 h3 h4) ?_
  have I1 : Inv X pins σ H { s with heap := s.heap.push { cls := .type "range", data := .fields #[.int lo t, .int hi u, .int 1 v] }, toks := tk } := I.kept fun b o e => Heap.get?_push_of_some _ e
  refine ⟨(s.heap.push { cls := .type "range", data := .fields #[.int lo t, .int hi u, .int 1 v] }).objs.size, [(s.heap.push { cls := .type "range", data := .fields #[.int lo t, .int hi u, .int 1 v] }).objs.size], _, _, H, rfl,
    I1.kept (t' := tk) fun b o e => Heap.get?_push_of_some _ e, turn_range _ lo (hi - lo).toNat, ?_, fun b hb => ?_, q⟩
  · have e1 : lo + ((0 : Nat) : Int) * 1 = lo := by simp
    have e2 : (((hi - lo).toNat : Nat) : Int) - ((0 : Nat) : Int) = Builtin.Range.rangeSize lo hi 1 := by rw [rangeSize_one]; split <;> omega
    show IsRangeIter _ _ (lo + ((0 : Nat) : Int) * 1) ((((hi - lo).toNat : Nat) : Int) - ((0 : Nat) : Int)) 1
    rw [e1, e2]
    exact Heap.get?_push_size _ rfl
  · have e : b = (s.heap.push { cls := .type "range", data := .fields #[.int lo t, .int hi u, .int 1 v] }).objs.size := by simpa using hb
    subst e
    exact I1.fpOk (Nat.le_refl _) (I1.hok.fresh (Nat.le_refl _))
def iRng1 (ta : TA) : TI := fun σ H R => ta σ H fun vs H1 => ∃ j : Int, vs = [.int j] ∧ -(2 ^ 62) ≤ j ∧ j < 2 ^ 62 ∧ R (Itr 0 j.toNat) H1
def iRng2 (ta : TA) : TI := fun σ H R => ta σ H fun vs H1 => ∃ i j : Int, vs = [.int i, .int j] ∧ (-(2 ^ 62) ≤ i ∧ i < 2 ^ 62 ∧ -(2 ^ 62) ≤ j ∧ j < 2 ^ 62) ∧ R (Itr i (j - i).toNat) H1
theorem pi_range1 {a : Expr} {ta : TA} {p pos : Pos} (hg : Gl X "range") (hm : X.mg "range" = none) (ha : PA X [a] ta) (hs : starEach [a] X.env = [(false, eval a X.env)] := by rfl) : PI X tg (.Call (.Name "range" p) [a] [] pos) (iRng1 ta) := by
  intro pins s σ H R I h
  refine Call_ (ld_blt I hg hm boot_range (PyProof.Rows.callWith_type1 (thn (ha pos pins s σ H _ I h) fun us s1 ⟨vs, H1, I1, r1, q1⟩ => ?_) hs rfl))
  obtain ⟨j, e, q1, q2, q⟩ := q1
  subst e
  cases r1 with
  | cons r rr =>
    cases rr
    obtain ⟨t, rfl⟩ := r
    exact call_range_1 (range_it I1 (by omega) (by omega) q1 q2 (by simpa using q))
/-- W: the invariant by the turn and a measure; N: what the body is to reach -/
def tFor (wi : TI) (g : TG) (tb : TS) : TS := fun D σ H => wi σ H fun J H1 => ∃ W : Nat → Nat → St → Hp → Prop, (∃ m, W 0 m σ H1) ∧ ∀ i m σ H, W i m σ H →
  (J.stop i H ∧ D.nx σ H) ∨ (J.go i H ∧ ∃ N : St → Hp → Prop, (∀ σ' H', N σ' H' → ∃ m', m' < m ∧ W (i + 1) m' σ' H') ∧ ∀ x H', J.yld i H x H' → g x σ H' fun σ2 H2 => tb { D with nx := N, ct := N, bk := D.nx } σ2 H2)
/-- the records at fp as they stand -/
def pinsAt (fp : List Addr) (h : Heap) : List (Addr × Obj) := fp.filterMap fun b => (h.get? b).map fun o => (b, o)
theorem mem_pinsAt {fp : List Addr} {h : Heap} {b : Addr} {o : Obj} (hb : b ∈ fp) (e : h.get? b = some o) : (b, o) ∈ pinsAt fp h := List.mem_filterMap.mpr ⟨b, hb, by rw [e]; rfl⟩
theorem of_pinsAt {fp : List Addr} {h : Heap} {p : Addr × Obj} (hp : p ∈ pinsAt fp h) : p.1 ∈ fp ∧ h.get? p.1 = some p.2 := by
  obtain ⟨b, hb, e⟩ := List.mem_filterMap.mp hp
  cases q : h.get? b with
  | none => rw [q] at e; cases e
  | some o =>
    rw [q] at e
    have e' : (b, o) = p := Option.some.inj e
    subst e'
    exact ⟨hb, q⟩
theorem Inv.pinned {pins : List (Addr × Obj)} {σ : St} {H : Hp} {s : Shared} {fp : List Addr} (I : Inv X pins σ H s) (hf : ∀ b ∈ fp, FpOk X pins H b) (ho : ∀ b ∈ fp, ∃ o, s.heap.get? b = some o ∧ ∀ v, o.data ≠ .cell v) : Inv X (pins ++ pinsAt fp s.heap) σ H s :=
  I.pins_of fun p hp => (List.mem_append.mp hp).elim (fun z => I.pin p (List.mem_append_right _ z)) fun z => by
    obtain ⟨hb, e⟩ := of_pinsAt z
    obtain ⟨f0, f1, f2, _⟩ := hf p.1 hb
    obtain ⟨o, e', d⟩ := ho p.1 hb
    rw [e] at e'; cases e'
    exact ⟨e, f0, f1, f2, d⟩
theorem Inv.unpinned {pins pl : List (Addr × Obj)} {σ : St} {H : Hp} {s : Shared} (I : Inv X (pins ++ pl) σ H s) : Inv X pins σ H s := I.pins_of fun p hp => I.pin p (List.mem_append_right _ (List.mem_append_left _ hp))
theorem ps_for {iter : Expr} {body : List Stmt} {wi : TI} {g : TG} {tb : TS} {pos : Pos} (hp : PassesOwn (model X.prog X.w) X.A X.env X.xe) (hc : X.calm = true) (hi : PI X tg iter wi) (hg : PG X tg g) (hb : PSs X body tb)
    (hs : ∀ x, foldedSetIterable iter X.env x = pure x := by intro _; rfl) : PS X (.For tg iter body [] pos) (tFor wi g tb) := by
  intro pins s σ H D I h
  refine wpAny_For (thn (hi pins s σ H _ I h) fun v s1 h1 => thn h1 fun itv s2 h2 => ?_) hs
  obtain ⟨it, fp, tn, J, H2, e, I2, T, st2, f2, W, ⟨m0, w0⟩, turn⟩ := h2
  subst e
  -- what stays true of the iterator's objects through the loop
  have stat : ∀ {H' : Hp}, (∀ b ∈ fp, H' b = none) → ∀ b ∈ fp, FpOk X pins H' b := fun hn b hb => ⟨hn b hb, (f2 b hb).2⟩
  refine codeAny_forLoop_any (fun n s' => ∃ i σ' H', Inv X pins σ' H' s' ∧ tn i s'.heap ∧ (∀ b ∈ fp, H' b = none) ∧ W i n σ' H') ?_ m0 ⟨0, σ, H2, I2, st2, fun b hb => (f2 b hb).1, w0⟩
  rintro n s3 ⟨i, σ3, H3, I3, st3, fr3, w3⟩
  rcases turn i n σ3 H3 w3 with ⟨stop, qn⟩ | ⟨go, N, hN, step⟩
  · refine wpAny_passesOwn hp (thn (T.done X rfl rfl rfl hc i pins s3 σ3 H3 X.xe I3 (stat fr3) st3 stop) fun r s4 ⟨hr, I4⟩ => ?_)
    subst hr
    exact wpAny_execs_nil ⟨σ3, H3, I4, qn⟩
  · refine wpAny_passesOwn hp (thn (T.item X rfl rfl rfl hc i pins s3 σ3 H3 X.xe I3 (stat fr3) st3 go) fun r s4 ⟨u, hr, h4⟩ => ?_)
    subst hr
    refine wpAny_passesOwn hp (thn h4 fun _ s5 ⟨x, H5, I5, r5, y5, st5, fr5⟩ => ?_)
    have I5' := I5.pinned (stat fr5) (T.obj _ _ st5)
    refine wpAny_passesOwn hp (thn (hg _ s5 σ3 H5 x u _ I5' r5 (step x H5 y5)) fun _ s6 ⟨σ6, H6, I6, q6⟩ => ?_)
    refine wpAny_passesOwn hp (thn (hb _ s6 σ6 H6 _ I6 q6) fun f s7 q7 => ?_)
    have again : ∀ {σ7 : St} {H7 : Hp}, Inv X (pins ++ pinsAt fp s5.heap) σ7 H7 s7 → N σ7 H7 → ∃ m, m < n ∧ ∃ i σ' H', Inv X pins σ' H' s7 ∧ tn i s7.heap ∧ (∀ b ∈ fp, H' b = none) ∧ W i m σ' H' := fun {σ7 H7} I7 n7 => by
      obtain ⟨m', hm, w7⟩ := hN σ7 H7 n7
      refine ⟨m', hm, i + 1, σ7, H7, I7.unpinned, T.keep _ _ _ st5 fun b hb o e => (I7.pin (b, o) (List.mem_append_right _ (List.mem_append_right _ (mem_pinsAt hb e)))).1, fun b hb => ?_, w7⟩
      obtain ⟨o, e, d⟩ := T.obj _ _ st5 b hb
      exact (I7.pin (b, o) (List.mem_append_right _ (List.mem_append_right _ (mem_pinsAt hb e)))).2.1
    cases f with
    | next => obtain ⟨σ7, H7, I7, n7⟩ := q7; exact again I7 n7
    | cont => obtain ⟨σ7, H7, I7, n7⟩ := q7; exact again I7 n7
    | brk => obtain ⟨σ7, H7, I7, q7⟩ := q7; exact ⟨σ7, H7, I7.unpinned, q7⟩
    | ret v => obtain ⟨x7, σ7, H7, I7, r7, q7⟩ := q7; exact ⟨x7, σ7, H7, I7.unpinned, r7, q7⟩
end

/-- over a list that the body leaves as it is -/
theorem for_list {K : PySem.W.Frag} {a : Addr} {xs : List V} {g : TG} {tb : TS} {D : Ends} {σ : St} {H : Hp} (Pv : Nat → St → Hp → Prop) (h0 : Pv 0 σ H) (hl : ∀ i σ H, i ≤ xs.length → Pv i σ H → SqL K H a xs)
    (hs : ∀ i x σ H, xs[i]? = some x → Pv i σ H → g x σ H fun σ2 H2 => tb { D with nx := Pv (i + 1), ct := Pv (i + 1), bk := D.nx } σ2 H2) (hd : ∀ σ H, Pv xs.length σ H → D.nx σ H) :
    ∃ W : Nat → Nat → St → Hp → Prop, (∃ m, W 0 m σ H) ∧ ∀ i m σ H, W i m σ H →
      ((Itl K a).stop i H ∧ D.nx σ H) ∨ ((Itl K a).go i H ∧ ∃ N : St → Hp → Prop, (∀ σ' H', N σ' H' → ∃ m', m' < m ∧ W (i + 1) m' σ' H') ∧ ∀ x H', (Itl K a).yld i H x H' → g x σ H' fun σ2 H2 => tb { D with nx := N, ct := N, bk := D.nx } σ2 H2) := by
  refine ⟨fun i m σ H => m = xs.length - i ∧ i ≤ xs.length ∧ Pv i σ H, ⟨xs.length, by simp, Nat.zero_le _, h0⟩, ?_⟩
  rintro i m σ H ⟨rfl, hi, p⟩
  have q := hl i σ H hi p
  by_cases hlt : i < xs.length
  · refine .inr ⟨⟨xs, xs[i], q, by simp [hlt]⟩, Pv (i + 1), fun σ' H' p' => ⟨xs.length - (i + 1), by omega, rfl, hlt, p'⟩, fun x H' y => ?_⟩
    obtain ⟨e, y⟩ := y
    subst e
    exact hs i x σ _ (y xs q) p
  · have e : i = xs.length := by omega
    subst e
    exact .inl ⟨⟨xs, q, Nat.le_refl _⟩, hd σ H p⟩
end L2

namespace L2
open PySem PySem.Spec PyProof.Rows

abbrev R2 := V → V → Hp → VK → Prop
/-- a two-place operation on values: f is binaryOp op, inplaceOp op or compareOp op -/
def OpR (X : Cx) (f : Value → Value → Sem Value) (r : R2) : Prop :=
  ∀ (pins : List (Addr × Obj)) (s : Shared) (σ : St) (H : Hp) (x y : V) (v u : Value) (Q : VK), Inv X pins σ H s → RelV x v → RelV y u → r x y H Q →
    wpAny (model X.prog X.w) X.A (f v u) (EP X pins σ Q) X.xe s
/-- a one-place operation -/
def UnR (X : Cx) (f : Value → Sem Value) (r : V → Hp → VK → Prop) : Prop :=
  ∀ (pins : List (Addr × Obj)) (s : Shared) (σ : St) (H : Hp) (x : V) (v : Value) (Q : VK), Inv X pins σ H s → RelV x v → r x H Q →
    wpAny (model X.prog X.w) X.A (f v) (EP X pins σ Q) X.xe s
/-- a call of a value that is known (a builtin, a type) with values -/
def CallR (X : Cx) (f : Value) (r : List V → Hp → VK → Prop) : Prop :=
  ∀ (pins : List (Addr × Obj)) (s : Shared) (σ : St) (H : Hp) (xs : List V) (us : List Value) (Q : VK), Inv X pins σ H s → Vals xs us → r xs H Q →
    wpAny (model X.prog X.w) X.A (call f us) (EP X pins σ Q) X.xe s
def tOp (r : R2) (ta tb : TE) : TE := fun σ H Q => ta σ H fun x H1 => tb σ H1 fun y H2 => r x y H2 Q
def tUn (r : V → Hp → VK → Prop) (ta : TE) : TE := fun σ H Q => ta σ H fun x H1 => r x H1 Q
/-- ints in, under C, and a value out -/
def rI (C : Int → Int → Prop) (g : Int → Int → V) : R2 := fun x y H Q => ∃ i j, x = .int i ∧ y = .int j ∧ C i j ∧ Q (g i j) H
def rI0 (g : Int → Int → V) : R2 := fun x y H Q => ∃ i j, x = .int i ∧ y = .int j ∧ Q (g i j) H
def rU (g : Int → V) : V → Hp → VK → Prop := fun x H Q => ∃ i, x = .int i ∧ Q (g i) H

section
variable {X : Cx} {a b c : Expr} {ta tb tc : TE} {pos : Pos}

theorem binT (ha : PE X a ta) (hb : PE X b tb) {pins : List (Addr × Obj)} {s : Shared} {σ : St} {H : Hp} {R : V → V → Hp → Prop} (I : Inv X pins σ H s)
    (h : ta σ H fun x H1 => tb σ H1 fun y H2 => R x y H2) {Q : Value → Shared → Prop} {f : Value → Value → Sem Value}
    (hf : ∀ v u s2 x y H2, Inv X pins σ H2 s2 → RelV x v → RelV y u → R x y H2 → wpAny (model X.prog X.w) X.A (f v u) Q X.xe s2) :
    wpAny (model X.prog X.w) X.A (eval a X.env) (fun v s₁ => wpAny (model X.prog X.w) X.A (eval b X.env) (fun u s₂ => wpAny (model X.prog X.w) X.A (f v u) Q X.xe s₂) X.xe s₁) X.xe s := by
  refine thn (ha pins s σ H _ I h) fun v s1 ⟨x, H1, I1, r1, q1⟩ => ?_
  refine thn (hb pins s1 σ H1 _ I1 q1) fun u s2 ⟨y, H2, I2, r2, q2⟩ => ?_
  exact hf v u s2 x y H2 I2 r1 r2 q2

theorem pe_op {op : Operator} {r : R2} (ho : OpR X (binaryOp op) r) (ha : PE X a ta) (hb : PE X b tb) : PE X (.BinOp a op b pos) (tOp r ta tb) := by
  intro pins s σ H Q I h
  exact wpAny_BinOp (binT ha hb I h fun v u s2 x y H2 I2 rx ry q => ho pins s2 σ H2 x y v u Q I2 rx ry q)
theorem pe_un {op : UnaryOp} {r : V → Hp → VK → Prop} (ho : UnR X (unaryOp op) r) (ha : PE X a ta) : PE X (.UnaryOp op a pos) (tUn r ta) := by
  intro pins s σ H Q I h
  exact UnaryOp_ (thn (ha pins s σ H _ I h) fun v s1 ⟨x, H1, I1, r1, q1⟩ => ho pins s1 σ H1 x v Q I1 r1 q1)
theorem opI {f : Value → Value → Sem Value} {C : Int → Int → Prop} {g : Int → Int → Int}
    (rule : ∀ (i j : Int) (t u : Tok) (s : Shared) (Q : Value → Shared → Prop) (E : Value → Shared → Prop), C i j → Q (.int (g i j) s.toks) { s with toks := s.toks + 1 } → wpAny (model X.prog X.w) X.A (f (.int i t) (.int j u)) Q E s) :
    OpR X f (rI C fun i j => .int (g i j)) := by
  intro pins s σ H x y v u Q I rx ry h
  obtain ⟨i, j, rfl, rfl, hc, q⟩ := h
  obtain ⟨t, rfl⟩ := rx
  obtain ⟨t', rfl⟩ := ry
  exact rule i j t t' s _ _ hc ⟨.int (g i j), H, I.tok _, ⟨_, rfl⟩, q⟩
theorem opI0 {f : Value → Value → Sem Value} {g : Int → Int → Int}
    (rule : ∀ (i j : Int) (t u : Tok) (s : Shared) (Q : Value → Shared → Prop) (E : Value → Shared → Prop), Q (.int (g i j) s.toks) { s with toks := s.toks + 1 } → wpAny (model X.prog X.w) X.A (f (.int i t) (.int j u)) Q E s) :
    OpR X f (rI0 fun i j => .int (g i j)) := by
  intro pins s σ H x y v u Q I rx ry h
  obtain ⟨i, j, rfl, rfl, q⟩ := h
  obtain ⟨t, rfl⟩ := rx
  obtain ⟨t', rfl⟩ := ry
  exact rule i j t t' s _ _ ⟨.int (g i j), H, I.tok _, ⟨_, rfl⟩, q⟩
theorem opB0 {f : Value → Value → Sem Value} {g : Int → Int → Bool}
    (rule : ∀ (i j : Int) (t u : Tok) (s : Shared) (Q : Value → Shared → Prop) (E : Value → Shared → Prop), Q (.bool (g i j)) s → wpAny (model X.prog X.w) X.A (f (.int i t) (.int j u)) Q E s) :
    OpR X f (rI0 fun i j => .bl (g i j)) := by
  intro pins s σ H x y v u Q I rx ry h
  obtain ⟨i, j, rfl, rfl, q⟩ := h
  obtain ⟨t, rfl⟩ := rx
  obtain ⟨t', rfl⟩ := ry
  exact rule i j t t' s _ _ ⟨.bl (g i j), H, I, rfl, q⟩

def CDiv (i j : Int) : Prop := 0 < j ∧ j < 1073741824
def CPow (i j : Int) : Prop := 0 ≤ j ∧ j ≤ 1000000 ∧ i.natAbs < 2 ^ 64
def CMul (i j : Int) : Prop := (-(2 ^ 64) < i ∧ i < 2 ^ 64) ∨ (-(2 ^ 64) < j ∧ j < 2 ^ 64)
theorem CMul.ok {i j : Int} (h : CMul i j) : IntMulOk i j := by
  rcases h with ⟨h1, h2⟩ | ⟨h1, h2⟩
  · exact .of_left (intBits_le_64 h1 h2)
  · exact .of_right (intBits_le_64 h1 h2)
theorem op_add : OpR X (binaryOp .Add) (rI0 fun i j => .int (i + j)) := opI0 fun _ _ _ _ _ _ _ q => add_int q
theorem op_sub : OpR X (binaryOp .Sub) (rI0 fun i j => .int (i - j)) := opI0 fun _ _ _ _ _ _ _ q => sub_int q
/-- // by a positive divisor -/
theorem op_fdiv : OpR X (binaryOp .FloorDiv) (rI CDiv fun i j => .int (i / j)) := opI fun i j _ _ _ _ _ hc q => by
  have h1 : (0 : Int) < j := hc.1
  have h2 : j < 1073741824 := hc.2
  exact floordiv_int (by omega) (by rw [Int.fdiv_eq_ediv_of_nonneg i (by omega)]; exact q) (.inl (PyProof.noPylong_small (by omega)))
/-- % by a positive divisor of any size -/
theorem op_mod : OpR X (binaryOp .Mod) (rI (fun _ j => 0 < j) fun i j => .int (i % j)) := opI fun i j _ _ _ _ _ hc q => by
  have h1 : (0 : Int) < j := hc
  exact mod_int' (by omega) (by rw [Int.fmod_eq_emod_of_nonneg i (by omega)]; exact q)
theorem op_pow : OpR X (binaryOp .Pow) (rI CPow fun i j => .int (i ^ j.toNat)) := opI fun _ _ _ _ _ _ _ hc q => pow_int_small hc.1 hc.2.1 hc.2.2 q
theorem unI {f : Value → Sem Value} {g : Int → Int}
    (rule : ∀ (i : Int) (t : Tok) (s : Shared) (Q : Value → Shared → Prop) (E : Value → Shared → Prop), Q (.int (g i) s.toks) { s with toks := s.toks + 1 } → wpAny (model X.prog X.w) X.A (f (.int i t)) Q E s) :
    UnR X f (rU fun i => .int (g i)) := by
  intro pins s σ H x v Q I rx h
  obtain ⟨i, rfl, q⟩ := h
  obtain ⟨t, rfl⟩ := rx
  exact rule i t s _ _ ⟨.int (g i), H, I.tok _, ⟨_, rfl⟩, q⟩
theorem un_neg : UnR X (unaryOp .USub) (rU fun i => .int (-i)) := unI fun _ _ _ _ _ q => neg_int q
end

/-- the scalars that == tells apart as data does -/
def scal : V → V → Bool
  | .non, .non => true | .non, .int _ => true | .int _, .non => true | .non, .bl _ => true | .bl _, .non => true | .non, .str _ => true | .str _, .non => true
  | .int _, .int _ => true | .bl _, .bl _ => true | .str _, .str _ => true | .byt _, .byt _ => true
  | .int _, .str _ => true | .str _, .int _ => true | .bl _, .str _ => true | .str _, .bl _ => true
  | _, _ => false
def rEq : R2 := fun x y H Q => scal x y = true ∧ Q (.bl (decide (x = y))) H
def rNe : R2 := fun x y H Q => scal x y = true ∧ Q (.bl (!decide (x = y))) H

theorem dec_int {i j : Int} : decide (V.int i = V.int j) = (i == j) := by
  rw [Bool.eq_iff_iff]
  simp
theorem dec_bl {i j : Bool} : decide (V.bl i = V.bl j) = (i == j) := by
  rw [Bool.eq_iff_iff]
  simp
theorem dec_str {i j : Str} : decide (V.str i = V.str j) = (i == j) := by
  rw [Bool.eq_iff_iff]
  simp
theorem dec_byt {i j : Array UInt8} : decide (V.byt i = V.byt j) = (i.toList == j.toList) := by
  rw [Bool.eq_iff_iff]
  cases i
  cases j
  simp

section
variable {X : Cx} {a b c : Expr} {ta tb tc : TE} {pos : Pos}
theorem fin_bl {pins : List (Addr × Obj)} {σ : St} {H : Hp} {s : Shared} {Q : VK} {k k' : Bool} (I : Inv X pins σ H s) (q : Q (.bl k) H) (e : k = k') : EP X pins σ Q (.bool k') s := by
  subst e
  exact ⟨.bl k, H, I, rfl, q⟩
theorem op_eq : OpR X (compareOp .Eq) rEq := by
  intro pins s σ H x y v u Q I rx ry h
  obtain ⟨hs, q⟩ := h
  cases x with
  | non =>
    cases rx
    cases y with
    | non => cases ry; exact PySem.EqNone.eq_none_none (fin_bl I q (by simp))
    | bl j => cases ry; exact PySem.EqNone.eq_none_bool (fin_bl I q (by simp))
    | int j => obtain ⟨t', rfl⟩ := ry; exact PySem.EqNone.eq_none_int (fin_bl I q (by simp))
    | str j => obtain ⟨t', rfl⟩ := ry; exact PySem.EqNone.eq_none_str (fin_bl I q (by simp))
    | _ => exact absurd (show false = true from hs) Bool.false_ne_true
  | bl i =>
    cases rx
    cases y with
    | non => cases ry; exact PySem.EqNone.eq_bool_none (fin_bl I q (by simp))
    | bl j => cases ry; exact eq_bool (fin_bl I q dec_bl)
    | str j => obtain ⟨t', rfl⟩ := ry; exact PySem.EqMixed.eq_bool_str (fin_bl I q (by simp))
    | _ => exact absurd (show false = true from hs) Bool.false_ne_true
  | int i =>
    obtain ⟨t, rfl⟩ := rx
    cases y with
    | non => cases ry; exact PySem.EqNone.eq_int_none (fin_bl I q (by simp))
    | int j => obtain ⟨t', rfl⟩ := ry; exact eq_int (fin_bl I q dec_int)
    | str j => obtain ⟨t', rfl⟩ := ry; exact PySem.EqMixed.eq_int_str (fin_bl I q (by simp))
    | _ => exact absurd (show false = true from hs) Bool.false_ne_true
  | str i =>
    obtain ⟨t, rfl⟩ := rx
    cases y with
    | non => cases ry; exact PySem.EqNone.eq_str_none (fin_bl I q (by simp))
    | bl j => cases ry; exact PySem.EqMixed.eq_str_bool (fin_bl I q (by simp))
    | int j => obtain ⟨t', rfl⟩ := ry; exact PySem.EqMixed.eq_str_int (fin_bl I q (by simp))
    | str j => obtain ⟨t', rfl⟩ := ry; exact eq_str (fin_bl I q dec_str)
    | _ => exact absurd (show false = true from hs) Bool.false_ne_true
  | byt i =>
    obtain ⟨t, rfl⟩ := rx
    cases y with
    | byt j => obtain ⟨t', rfl⟩ := ry; exact PySem.W.eq_bytes (fin_bl I q dec_byt)
    | _ => exact absurd (show false = true from hs) Bool.false_ne_true
  | _ => cases y <;> exact absurd (show false = true from hs) Bool.false_ne_true
theorem op_ne : OpR X (compareOp .NotEq) rNe := by
  intro pins s σ H x y v u Q I rx ry h
  obtain ⟨hs, q⟩ := h
  cases x with
  | non =>
    cases rx
    cases y with
    | non => cases ry; exact PySem.EqNone.ne_none_none (fin_bl I q (by simp))
    | bl j => cases ry; exact PySem.EqNone.ne_none_bool (fin_bl I q (by simp))
    | int j => obtain ⟨t', rfl⟩ := ry; exact PySem.EqNone.ne_none_int (fin_bl I q (by simp))
    | str j => obtain ⟨t', rfl⟩ := ry; exact PySem.EqNone.ne_none_str (fin_bl I q (by simp))
    | _ => exact absurd (show false = true from hs) Bool.false_ne_true
  | bl i =>
    cases rx
    cases y with
    | non => cases ry; exact PySem.EqNone.ne_bool_none (fin_bl I q (by simp))
    | bl j => cases ry; exact ne_bool (fin_bl I q (congrArg not dec_bl))
    | str j => obtain ⟨t', rfl⟩ := ry; exact PySem.EqMixed.ne_bool_str (fin_bl I q (by simp))
    | _ => exact absurd (show false = true from hs) Bool.false_ne_true
  | int i =>
    obtain ⟨t, rfl⟩ := rx
    cases y with
    | non => cases ry; exact PySem.EqNone.ne_int_none (fin_bl I q (by simp))
    | int j => obtain ⟨t', rfl⟩ := ry; exact ne_int (fin_bl I q (congrArg not dec_int))
    | str j => obtain ⟨t', rfl⟩ := ry; exact PySem.EqMixed.ne_int_str (fin_bl I q (by simp))
    | _ => exact absurd (show false = true from hs) Bool.false_ne_true
  | str i =>
    obtain ⟨t, rfl⟩ := rx
    cases y with
    | non => cases ry; exact PySem.EqNone.ne_str_none (fin_bl I q (by simp))
    | bl j => cases ry; exact PySem.EqMixed.ne_str_bool (fin_bl I q (by simp))
    | int j => obtain ⟨t', rfl⟩ := ry; exact PySem.EqMixed.ne_str_int (fin_bl I q (by simp))
    | str j => obtain ⟨t', rfl⟩ := ry; exact ne_str (fin_bl I q (congrArg not dec_str))
    | _ => exact absurd (show false = true from hs) Bool.false_ne_true
  | byt i =>
    obtain ⟨t, rfl⟩ := rx
    cases y with
    | byt j => obtain ⟨t', rfl⟩ := ry; exact PySem.W.ne_bytes (fin_bl I q (congrArg not dec_byt))
    | _ => exact absurd (show false = true from hs) Bool.false_ne_true
  | _ => cases y <;> exact absurd (show false = true from hs) Bool.false_ne_true

theorem op_lt : OpR X (compareOp .Lt) (rI0 fun i j => .bl (decide (i < j))) := opB0 fun _ _ _ _ _ _ _ q => lt_int q
theorem op_le : OpR X (compareOp .LtE) (rI0 fun i j => .bl (decide (i ≤ j))) := opB0 fun _ _ _ _ _ _ _ q => le_int q
theorem op_gt : OpR X (compareOp .Gt) (rI0 fun i j => .bl (decide (j < i))) := opB0 fun _ _ _ _ _ _ _ q => gt_int q
/-- two rules for one operation: by cases -/
theorem OpR.or {f : Value → Value → Sem Value} {r r' : R2} (h : OpR X f r) (h' : OpR X f r') : OpR X f (fun x y H Q => r x y H Q ∨ r' x y H Q) := by
  intro pins s σ H x y v u Q I rx ry q
  rcases q with q | q
  · exact h pins s σ H x y v u Q I rx ry q
  · exact h' pins s σ H x y v u Q I rx ry q

theorem nomark (b : Expr) {op : CmpOp} (h : op ≠ .In := by decide) (h2 : op ≠ .NotIn := by decide) : behindInMarks op b = false := by
  have e1 : (op == CmpOp.In) = false := by cases op <;> first | rfl | exact absurd rfl h
  have e2 : (op == CmpOp.NotIn) = false := by cases op <;> first | rfl | exact absurd rfl h2
  cases b <;> simp [behindInMarks, e1, e2]
/-- a comparison as a value; hm: nomark b, or (for in, not in) by with_unfolding_all rfl -/
theorem pe_cmpR {op : CmpOp} {r : R2} (ho : OpR X (compareOp op) r) (ha : PE X a ta) (hb : PE X b tb) (hm : behindInMarks op b = false) : PE X (.Compare a [op] [b] pos) (tOp r ta tb) := by
  intro pins s σ H Q I h
  exact wpAny_Compare1 (binT ha hb I h fun v u s2 x y H2 I2 rx ry q => ho pins s2 σ H2 x y v u Q I2 rx ry q) hm
/-- a reading of a value as a test -/
def tTest (t : TE) : TT := fun σ H Q => t σ H fun x H' => ∃ k, x = .bl k ∧ Q k H'
theorem pt_cmpR {op : CmpOp} {r : R2} (ho : OpR X (compareOp op) r) (ha : PE X a ta) (hb : PE X b tb) (hm : behindInMarks op b = false) : PT X (.Compare a [op] [b] pos) (tTest (tOp r ta tb)) := by
  intro pins s σ H Q I h
  refine wpAny_isTrue_Compare1 (thn (ha pins s σ H _ I h) fun v s1 ⟨x, H1, I1, r1, q1⟩ => thn (hb pins s1 σ H1 _ I1 q1) fun u s2 ⟨y, H2, I2, r2, q2⟩ =>
    thn (ho pins s2 σ H2 x y v u _ I2 r1 r2 q2) fun c s3 ⟨z, H3, I3, r3, k, e, q3⟩ => ?_) hm
  subst e
  cases r3
  exact wpAny_truthy_bool ⟨H3, I3, q3⟩
/-- a op1 b op2 c -/
def tChain (r r' : R2) (ta tb tc : TE) : TE := fun σ H Q => ta σ H fun x H1 => tb σ H1 fun y H2 => r x y H2 fun z H3 => ∃ k, z = .bl k ∧
  (if k = true then tc σ H3 fun w' H4 => r' y w' H4 Q else Q (.bl false) H3)
theorem pe_chain {op op' : CmpOp} {r r' : R2} (ho : OpR X (compareOp op) r) (ho' : OpR X (compareOp op') r') (ha : PE X a ta) (hb : PE X b tb) (hc : PE X c tc)
    (hm : lastMarks [op, op'] [b, c] = false := by with_unfolding_all rfl) : PE X (.Compare a [op, op'] [b, c] pos) (tChain r r' ta tb tc) := by
  intro pins s σ H Q I h
  refine Compare_chain (thn (ha pins s σ H _ I h) fun v s1 ⟨x, H1, I1, r1, q1⟩ => chain_link (thn (hb pins s1 σ H1 _ I1 q1) fun u s2 ⟨y, H2, I2, r2, q2⟩ =>
    thn (ho pins s2 σ H2 x y v u _ I2 r1 r2 q2) fun d s3 ⟨z, H3, I3, r3, k, e, q3⟩ => ?_)) hm
  subst e
  cases r3
  refine wpAny_truthy_bool ?_
  cases k with
  | false => exact ite_ff ⟨.bl false, H3, I3, rfl, q3⟩
  | true => exact ite_tt (chain_last (thn (hc pins s3 σ H3 _ I3 q3) fun w' s4 ⟨z', H4, I4, r4, q4⟩ => ho' pins s4 σ H4 y z' u w' Q I4 r2 r4 q4))
theorem line63 : (sizeLine : Nat) < 2 ^ 63 := by rw [sizeLine_eq]; decide
theorem op_add_str : OpR X (binaryOp .Add) (fun x y H Q => ∃ i j, x = .str i ∧ y = .str j ∧ i.length + j.length ≤ sizeLine ∧ Q (.str (i ++ j)) H) := by
  intro pins s σ H x y v u Q I rx ry h
  obtain ⟨i, j, rfl, rfl, hz, q⟩ := h
  obtain ⟨t, rfl⟩ := rx
  obtain ⟨t', rfl⟩ := ry
  exact add_str (fun t' tk => ⟨.str (i ++ j), H, I.tok _, ⟨_, rfl⟩, q⟩) hz
theorem vals1 {x : V} {us : List Value} (r : Vals [x] us) : ∃ u, us = [u] ∧ RelV x u := by
  cases r with
  | cons r1 r2 => cases r2; exact ⟨_, rfl, r1⟩
theorem vals2 {x y : V} {us : List Value} (r : Vals [x, y] us) : ∃ u w', us = [u, w'] ∧ RelV x u ∧ RelV y w' := by
  cases r with
  | cons r1 r2 =>
    cases r2 with
    | cons r3 r4 => cases r4; exact ⟨_, _, rfl, r1, r3⟩
end
end L2

namespace L2
open PySem PySem.Spec PyProof.Rows

structure ObjM (h : Heap) (x dx C : Addr) (mA : Str → Option Value) : Prop where
  obj : h.get? x = some (PySem.W.instObj C dx)
  ns : h.Ns1 dx mA
  ne : dx ≠ x

section
variable {prog : Program} {w : World} {A : Around} {E : Value → Shared → Prop} {s : Shared} {K : PySem.W.Frag} {x dx C f : Addr} {mA : Str → Option Value} {name : Str} {v : Value}

end

def putF (f : Str) (v : V) : List (Str × V) → List (Str × V)
  | [] => [(f, v)]
  | (g, x) :: r => if g = f then (g, v) :: r else (g, x) :: putF f v r
section
variable {P : Program} {w : World} {H H' : Hp} {h h' : Heap} {a C dx : Addr} {fs fs' : List (Str × V)}
end

structure Cls (K : PySem.W.Frag) (C : Addr) : Prop where
  pg : PySem.W.plainGet K C Str.empty = true
  hd : PySem.W.hasDictIn K C = true
  po : PySem.W.plainOver K C = true
  sa : PySem.W.findIn K (.ref C) "__setattr__" = some (some (.builtin "object.__setattr__"))
theorem Cls.get {K : PySem.W.Frag} {C : Addr} (c : Cls K C) (f : Str) : PySem.W.plainGet K C f = true := c.pg
/-- no class of it has the name -/
def NoAttr (K : PySem.W.Frag) (C : Addr) (f : Str) : Prop := PySem.W.findIn K (.ref C) f = some none
/-- a constant of the class -/
structure Con (K : PySem.W.Frag) (C : Addr) (f : Str) (v : V) (u : Value) : Prop where
  at_ : PySem.W.findIn K (.ref C) f = some (some u)
  rel : RelV v u
  get : PySem.W.specialIn K u "__get__" = some none
  cp : PySem.W.copiedNames.contains f = false
/-- a method: a plain def of the class or of one above it -/
structure Meth (K : PySem.W.Frag) (C : Addr) (m : Str) (f : Addr) : Prop where
  at_ : PySem.W.findIn K (.ref C) m = some (some (.ref f))
  fn : PySem.W.isFn K (.ref f) = true
  kp : PySem.W.keepIn K (.ref f) = true

section
variable {X : Cx} {pins : List (Addr × Obj)} {σ : St} {H : Hp} {s : Shared} {a C dx : Addr} {fs : List (Str × V)} {f : Str} {v : V} {A : Around} {E : Value → Shared → Prop}

/-- a new instance, tracked, without attributes -/
theorem Inv.made (I : Inv X pins σ H s) : Inv X pins σ (upd (upd H s.heap.objs.size (.own (s.heap.objs.size + 1))) (s.heap.objs.size + 1) (.ins C s.heap.objs.size []))
    { s with heap := (s.heap.push PySem.W.emptyDict).push (PySem.W.instObj C s.heap.objs.size) } := by
  have e1 : (s.heap.push PySem.W.emptyDict).get? s.heap.objs.size = some PySem.W.emptyDict := Heap.get?_push_size s.heap rfl
  have e2 : ((s.heap.push PySem.W.emptyDict).push (PySem.W.instObj C s.heap.objs.size)).get? (s.heap.objs.size + 1) = some (PySem.W.instObj C s.heap.objs.size) := by
    have := Heap.get?_push_size (s.heap.push PySem.W.emptyDict) (o := PySem.W.instObj C s.heap.objs.size) rfl
    rwa [Heap.size_push] at this
  have e3 : (s.heap.push PySem.W.emptyDict).Ns s.heap.objs.size (fun _ => none) := ⟨PySem.W.emptyDict, #[], _, e1, rfl, (fun e he => absurd he (by simp)), fun _ => rfl⟩
  have I1 := I.laid (a := s.heap.objs.size) (o := .own (s.heap.objs.size + 1)) (h' := s.heap.push PySem.W.emptyDict) (t' := s.toks) (fun b u q => Heap.get?_push_of_some _ q) (Nat.le_refl _) ⟨_, e1⟩
  refine I1.laid (a := s.heap.objs.size + 1) (o := .ins C s.heap.objs.size []) (t' := s.toks) (fun b u q => Heap.get?_push_of_some _ q) (Nat.le_of_eq (Heap.size_push _ _)) ?_
  have ne : s.heap.objs.size ≠ s.heap.objs.size + 1 := Nat.ne_of_lt (Nat.lt_succ_self _)
  refine ⟨by rw [upd_ne ne, upd_same], Nat.zero_le _, ne, e2, fun _ => none, (Heap.Ns1.of_empty e3).at fun o q => Heap.get?_push_of_some _ q, fun _ => True.intro, fun y hy => absurd rfl hy⟩

end

/-- e.f, an attribute of the instance -/
def tFld (K : PySem.W.Frag) (ta : TE) (f : Str) : TE := fun σ H Q => ta σ H fun x H1 => ∃ a C dx fs v, x = .ref a ∧ H1 a = some (.ins C dx fs) ∧ Cls K C ∧ NoAttr K C f ∧ fs.lookup f = some v ∧ Q v H1
/-- e.f = value -/
def sFld (K : PySem.W.Frag) (ta tv : TE) (f : Str) : TS := fun D σ H => tv σ H fun y H1 => ta σ H1 fun x H2 => ∃ a C dx fs, x = .ref a ∧ H2 a = some (.ins C dx fs) ∧ Cls K C ∧ NoAttr K C f ∧ fs.length < 1000 ∧
  D.nx σ (upd H2 a (.ins C dx (putF f y fs)))
section
variable {X : Cx} {o e value : Expr} {f : Str} {pos pos' tpos : Pos} {ta tv : TE}
end

section
variable {X : Cx} {pins : List (Addr × Obj)} {σ : St} {H : Hp} {s : Shared} {A : Around} {E : Value → Shared → Prop} {Q : Value → Shared → Prop} {c : Value} {b : Bool}
/-- the type of a value, as the fragment's deciders take it; for an instance its class -/
inductive TyOf (K : PySem.W.Frag) (H : Hp) : V → Value → Prop where
  | non : TyOf K H .non (.type "NoneType")
  | bl (x : Bool) : TyOf K H (.bl x) (.type "bool")
  | int (i : Int) : TyOf K H (.int i) (.type "int")
  | str (x : Str) : TyOf K H (.str x) (.type "str")
  | flt (x : UInt64) : TyOf K H (.flt x) (.type "float")
  | lst {a : Addr} {xs : List V} (e : H a = some (.lst xs)) : TyOf K H (.ref a) (.type "list")
  | frz {a : Addr} {o : Obj} {xs : List V} (e : H a = some (.frz o (.lst xs))) : TyOf K H (.ref a) (.type "list")
  | tup {a : Addr} {xs : List V} (e : H a = some (.tup xs)) : TyOf K H (.ref a) (.type "tuple")
  | dK {a : Addr} {kvs : List (Key × V)} (e : H a = some (.dK kvs)) : TyOf K H (.ref a) (.type "dict")
  | dT {a : Addr} {kvs : List (List Key × V)} (e : H a = some (.dT kvs)) : TyOf K H (.ref a) (.type "dict")
  | ins {a C dx : Addr} {fs : List (Str × V)} (e : H a = some (.ins C dx fs)) (cl : Cls K C) (ha : PySem.W.findIn K (.ref C) "__class__" = some (some (.builtin "object.__class__")))
      (hn : PySem.W.specialIn K (.builtin "object.__class__") "__get__" = some (some (.builtin "getset_descriptor.__get__"))) (htk : PySem.W.takesIn K (.builtin "object.__class__") = some true)
      (hm : PySem.W.mroIn K C (.type "object") = some true) : TyOf K H (.ref a) (.ref C)
end
end L2

namespace L2
open PySem PySem.Spec PyProof.Rows

structure Room (k : Nat) (A : Around) : Prop where
  hd : A.handled = none
  dp : A.depth + 3 * k + 5 < recursionLimit
  un : A.units + 16 * k + 200 < cLine
theorem Room.mono {j k : Nat} {A : Around} (r : Room k A) (h : j ≤ k) : Room j A := ⟨r.hd, by have := r.dp; omega, by have := r.un; omega⟩
theorem Room.deeper {k : Nat} {A : Around} (r : Room (k + 1) A) (env : Env) : Room k (A.deeper env) :=
  ⟨r.hd, by have := r.dp; show A.depth + 1 + 3 * k + 5 < _; omega, by have := r.un; show A.units + 3 + 16 * k + 200 < _; omega⟩
theorem Room.in1 {k : Nat} {A : Around} (r : Room (k + 1) A) : Room k A.in1 :=
  ⟨r.hd, by have := r.dp; show A.depth + 3 * k + 5 < _; omega, by have := r.un; show A.units + 1 + 16 * k + 200 < _; omega⟩
theorem Room.depth {k : Nat} {A : Around} (r : Room k A) : A.depth < recursionLimit := by have := r.dp; omega
theorem Room.units {k : Nat} {A : Around} (r : Room k A) : A.units + 64 < cLine := by have := r.un; omega
theorem Room.units0 {k : Nat} {A : Around} (r : Room k A) : A.units < cLine := by have := r.un; omega

def tNil : TA := fun _ H Q => Q [] H
def tCons (ta : TE) (tr : TA) : TA := fun σ H Q => ta σ H fun x H1 => tr σ H1 fun xs H2 => Q (x :: xs) H2
section
variable {X : Cx} {e : Expr} {es : List Expr} {te : TE} {t : TA} {pos : Pos}
theorem pa_nil : PA X [] tNil := fun _ _ _ _ H Q I h => Calls.spliced_nil ⟨[], H, I, .nil, h⟩
theorem pa_cons (ha : PE X e te) (hr : PA X es t) (hs : starEach (e :: es) X.env = (false, eval e X.env) :: starEach es X.env := by rfl) : PA X (e :: es) (tCons te t) := by
  intro pos pins s σ H Q I h
  rw [hs]
  show wpAny _ _ (spliced ((false, eval e X.env) :: backTo pos (starEach es X.env))) _ _ s
  refine Calls.spliced_cons (thn (ha pins s σ H _ I h) fun u s1 ⟨x, H1, I1, r1, q1⟩ => ?_)
  exact thn (hr pos pins s1 σ H1 _ I1 q1) fun us s2 ⟨xs, H2, I2, r2, q2⟩ => ⟨x :: xs, H2, I2, .cons r1 r2, q2⟩

/-- a tuple, a list of written items -/
def tTup (t : TA) : TE := fun σ H Q => t σ H fun xs H1 => xs.length ≤ sizeLine ∧ ∀ p, H1 p = none → Q (.ref p) (upd H1 p (.tup xs))
def tLst (t : TA) : TE := fun σ H Q => t σ H fun xs H1 => xs.length ≤ sizeLine ∧ ∀ p, H1 p = none → Q (.ref p) (upd H1 p (.lst xs))
theorem pe_tup {x1} (h : PA X es t) : PE X (.Tuple es x1 pos) (tTup t) := by
  intro pins s σ H Q I hq
  refine wpAny_Tuple_spliced (thn (h pos pins s σ H _ I hq) fun us s1 ⟨xs, H1, I1, r, z, q⟩ => ⟨by rw [← r.length]; exact z, ?_⟩)
  have hf : H1 s1.heap.objs.size = none := I1.hok.fresh (Nat.le_refl _)
  refine ⟨.ref s1.heap.objs.size, upd H1 s1.heap.objs.size (.tup xs), I1.laid (t' := s1.toks) (fun b u e => Heap.get?_push_of_some _ e) (Nat.le_refl _) ?_, rfl, q _ hf⟩
  exact ⟨z, us, r, ⟨_, Heap.get?_push_size _ rfl, rfl, _, rfl⟩⟩
theorem pe_lst (h : PA X es t) : PE X (.List es pos) (tLst t) := by
  intro pins s σ H Q I hq
  refine wpAny_List_spliced (thn (h pos pins s σ H _ I hq) fun us s1 ⟨xs, H1, I1, r, z, q⟩ => ⟨by rw [← r.length]; exact z, ?_⟩)
  have hf : H1 s1.heap.objs.size = none := I1.hok.fresh (Nat.le_refl _)
  refine ⟨.ref s1.heap.objs.size, upd H1 s1.heap.objs.size (.lst xs), I1.laid (t' := s1.toks) (fun b u e => Heap.get?_push_of_some _ e) (Nat.le_refl _) ?_, rfl, q _ hf⟩
  exact ⟨z, us, 0, r, Heap.get?_push_size _ rfl⟩
end

/-- a def's promise: the bound arguments in the parameters' order, the heap, the wanted end, the wanted exception -/
abbrev Sp := List V → Hp → VK → XK → Prop
/-- how an exception lies behind a call (file 08 gives it): the callers' frames, abstract heap and state ahead of the call, the wish, the exception, the state -/
abbrev CXT := List Env → Hp → Shared → XK → Value → Shared → Prop

/-- the state at a call -/
structure Env0 (P : Program) (w : World) (K : PySem.W.Frag) (mg : Str → Option Value) (base : Heap) (A : Around) (outer : List Env) (s : Shared) (H : Hp) : Prop where
  frames : A.frames = some outer
  mod : Mod K mg base
  bs : ∀ b o, base.get? b = some o → s.heap.get? b = some o ∧ H b = none
  bsz : base.objs.size ≤ s.heap.objs.size
  funs : s.heap.FunFrames base outer
  frf : ∀ b ∈ frs outer, H b = none
  hok : HOk P w H s.heap
  bare : AllBare s.gens
/-- a call's end -/
def CE (outer : List Env) (P : Program) (w : World) (H : Hp) (s : Shared) (Q : VK) (u : Value) (s' : Shared) : Prop :=
  ∃ v H', s'.os = s.os ∧ AllBare s'.gens ∧ Un (frs outer) [] H H' s.heap s'.heap ∧ HOk P w H' s'.heap ∧ RelV v u ∧ Q v H'
def CR (CX : CXT) (outer : List Env) (P : Program) (w : World) (H : Hp) (s : Shared) (Q : VK) (E : XK) (r : Result) (s' : Shared) : Prop :=
  match r with
  | .ok (.ret u) => CE outer P w H s Q u s'
  | .ok _ => False
  | .error e => CX outer H s E e s'
structure FnOk (P : Program) (w : World) (K : PySem.W.Frag) (mg : Str → Option Value) (base : Heap) (CX : CXT) (k : Nat) (f : Addr) (fd : FuncData) (ps : List Str) (sp : Sp) : Prop where
  len : ∀ vs H Q E, sp vs H Q E → vs.length = ps.length
  run : ∀ (A : Around) (outer : List Env) (s : Shared) (H : Hp) (args : Args) (us : List Value) (vs : List V) (Q : VK) (E : XK), Room k A → Env0 P w K mg base A outer s H → BindsTo s fd args (ps.zip us) → Vals vs us → sp vs H Q E →
    codeAny (model P w) A (.call (.ref f) args) (CR CX outer P w H s Q E) s
theorem FnOk.mono {P : Program} {w : World} {K : PySem.W.Frag} {mg : Str → Option Value} {base : Heap} {CX : CXT} {j k : Nat} {f : Addr} {fd : FuncData} {ps : List Str} {sp : Sp} (F : FnOk P w K mg base CX j f fd ps sp) (h : j ≤ k) :
    FnOk P w K mg base CX k f fd ps sp := ⟨F.len, fun A outer s H args us vs Q E hr => F.run A outer s H args us vs Q E (hr.mono h)⟩
theorem Env0.in1 {P : Program} {w : World} {K : PySem.W.Frag} {mg : Str → Option Value} {base : Heap} {A : Around} {outer : List Env} {s : Shared} {H : Hp} (e : Env0 P w K mg base A outer s H) :
    Env0 P w K mg base A.in1 outer s H := ⟨e.frames, e.mod, e.bs, e.bsz, e.funs, e.frf, e.hok, e.bare⟩

section
variable {X : Cx} {pins : List (Addr × Obj)} {σ : St} {H : Hp} {s s' : Shared}
/-- from a body: what a callee wants -/
theorem Inv.env0 (I : Inv X pins σ H s) : Env0 X.prog X.w X.K X.mg X.base X.A X.stack s H :=
  ⟨I.ok.frames, I.ok.mod, I.bs, Nat.le_trans I.ok.bsz I.sz, I.stack, I.stkFree, I.hok, I.bare⟩
/-- behind a call -/
theorem Inv.after {Q : VK} {u : Value} (I : Inv X pins σ H s) (h : CE X.stack X.prog X.w H s Q u s') : EP X pins σ Q u s' := by
  obtain ⟨v, H', os, bare, un, hok, r, q⟩ := h
  obtain ⟨hh, g, d, t, os'⟩ := s'
  obtain rfl : os' = s.os := os
  exact ⟨v, H', I.call (h' := hh) (g' := g) (d' := d) (t' := t) (ch := []) un hok bare (fun b z => absurd z (by simp)), r, q⟩
end

/-- f(..): the written arguments, then the defaults dvs; E: what is wanted of an exception -/
def tCall (sp : Sp) (dvs : List V) (E : XK) (t : TA) : TE := fun σ H Q => t σ H fun vs H1 => sp (vs ++ dvs) H1 Q E
/-- o.m(..) of an instance of the class at C -/
def tMeth (C : Addr) (m : Str) (sp : Sp) (dvs : List V) (E : XK) (ta : TE) (t : TA) : TE := fun σ H Q => ta σ H fun x H1 => ∃ a dx fs, x = .ref a ∧ H1 a = some (.ins C dx fs) ∧ fs.lookup m = none ∧
  t σ H1 fun vs H2 => sp (x :: (vs ++ dvs)) H2 Q E
/-- C(..): a new instance and its dict, then __init__ -/
def tMake (C : Addr) (sp : Sp) (dvs : List V) (E : XK) (t : TA) : TE := fun σ H Q => t σ H fun vs H1 => ∀ x dx, H1 x = none → H1 dx = none → dx ≠ x →
  sp (.ref x :: (vs ++ dvs)) (upd (upd H1 dx (.own x)) x (.ins C dx [])) (fun v H2 => v = .non ∧ Q (.ref x) H2) E

/-- how the parameters are bound: us the positional arguments, kw the keywords' values by name, ds the defaults that fill up -/
def Binds (K : PySem.W.Frag) (fd : FuncData) (ps : List Str) (ds : List Value) : Prop :=
  ∀ (s : Shared) (us : List Value), K.In s.heap → (us ++ ds).length = ps.length → BindsTo s fd ⟨us, []⟩ (ps.zip (us ++ ds))
/-- every parameter is given -/
theorem Binds.all {K : PySem.W.Frag} {fd : FuncData} {ps : List Str} (h : ∀ us : List Value, us.length = ps.length → bindArgs fd ⟨us, []⟩ = pure (ps.zip us)) : Binds K fd ps [] := fun s us _ hl => by
  rw [List.append_nil] at hl ⊢
  exact .of_eq (h us hl)

/-- an exception of a callee reaches what this body wants of exceptions -/
def Passes (CX : CXT) (X : Cx) (E : XK) : Prop := ∀ (pins : List (Addr × Obj)) (σ : St) (H : Hp) (s : Shared) (e : Value) (s' : Shared), Inv X pins σ H s → CX X.stack H s E e s' → X.xe e s'

section
variable {X : Cx} {CX : CXT} {k : Nat} {f C : Addr} {fd : FuncData} {ps : List Str} {sp : Sp} {dvs : List V} {ds : List Value} {E : XK} {x m : Str} {p pos apos : Pos} {e o : Expr} {es : List Expr} {ta : TE} {t : TA}

/-- the callee runs -/
theorem run_fn {pins : List (Addr × Obj)} {σ : St} {H : Hp} {s : Shared} {Q : VK} {us : List Value} {vs : List V} (F : FnOk X.prog X.w X.K X.mg X.base CX k f fd ps sp) (hr : Room k X.A) (hb : Binds X.K fd ps ds) (hd : Vals dvs ds) (hx : Passes CX X E)
    (I : Inv X pins σ H s) (r : Vals vs us) (h : sp (vs ++ dvs) H Q E) : wpAny (model X.prog X.w) X.A (call (.ref f) us) (EP X pins σ Q) X.xe s := by
  have r2 : Vals (vs ++ dvs) (us ++ ds) := r.append hd
  have hl : (us ++ ds).length = ps.length := by rw [← r2.length]; exact F.len _ _ _ _ h
  refine wpAny_call (codeAny_mono (F.run X.A X.stack s H ⟨us, []⟩ (us ++ ds) (vs ++ dvs) Q E hr I.env0 (hb s us I.kIn hl) r2 h) fun r s' hq => ?_)
  cases r with
  | error e => exact hx pins σ H s e s' I hq
  | ok fl =>
    cases fl with
    | ret u => exact I.after hq
    | next => exact False.elim hq
    | brk => exact False.elim hq
    | cont => exact False.elim hq

theorem pe_call (F : FnOk X.prog X.w X.K X.mg X.base CX k f fd ps sp) (hr : Room k X.A) (hg : Gl X x) (hm : X.mg x = some (.ref f)) (hk : PySem.W.keepIn X.K (.ref f) = true) (hb : Binds X.K fd ps ds) (hd : Vals dvs ds) (hx : Passes CX X E)
    (ha : PA X (e :: es) t) (hdb : (x == ("__debug__" : Str)) = false := by decide) (he : starEach (e :: es) X.env = (false, eval e X.env) :: starEach es X.env := by rfl) (hpl : (backTo pos (starEach es X.env)).any (·.1) = false := by rfl) :
    PE X (.Call (.Name x p) (e :: es) [] pos) (tCall sp dvs E t) := by
  intro pins s σ H Q I h
  refine wpAny_Call_Name_kw (ld_glob I hg hm ?_ hdb)
  refine PySem.W.callWith_K (h₀ := X.base) I.ok.mod.kin hk (thn (ha pos pins s σ H _ I h) fun us s1 ⟨vs, H1, I1, r, q⟩ => ⟨I1.kIn, ?_⟩) he hpl
  exact run_fn F hr hb hd hx I1 r q
/-- what a class must have to be made -/
structure Mk (K : PySem.W.Frag) (C f : Addr) : Prop where
  makes : PySem.W.makesIn K C = true
  init : PySem.W.findIn K (.ref C) "__init__" = some (some (.ref f))
  fn : PySem.W.isFn K (.ref f) = true
  kp : PySem.W.keepIn K (.ref C) = true

end

section
variable {X : Cx} {CX : CXT} {k : Nat} {f C : Addr} {fd : FuncData} {ps ks : List Str} {sp : Sp} {E : XK} {x m : Str} {p pos apos kpos : Pos} {e o : Expr} {es : List Expr} {kws : List Keyword} {te ta : TE} {t tk : TA} {nm : Option Str}
/-- how a call with keywords binds: g puts the positional values us and the keywords' values ws (names ks) in the parameters' order, defaults among them -/
structure KBinds (K : PySem.W.Frag) (fd : FuncData) (ps ks : List Str) (g : List Value → List Value → List Value) (gV : List V → List V → List V) : Prop where
  to : ∀ (s : Shared) (us ws : List Value), K.In s.heap → (g us ws).length = ps.length → BindsTo s fd ⟨us, ks.zip ws⟩ (ps.zip (g us ws))
  rel : ∀ {vs : List V} {us : List Value} {zs : List V} {ws : List Value}, Vals vs us → Vals zs ws → Vals (gV vs zs) (g us ws)
variable {g : List Value → List Value → List Value} {gV : List V → List V → List V}
end

/-- names: the parameters first -/
structure FnScope (N P : List Str) (sc : Scope) : Prop where
  kind : sc.kind = .function
  co : sc.isCoroutine = false
  gen : sc.isGenerator = false
  nd : N.Nodup
  pre : N.take P.length = P
  par : ∀ x ∈ P, sc.names.lookup x = some .local ∨ sc.names.lookup x = some .cell
  nofree : ∀ y ∈ sc.names, y.2 ≠ .free

theorem bindL_out {kindOf : Str → Option NameKind} {x : Str} : ∀ {binds : List (Str × Value)} {m : Str → Option Value}, (∀ v, (x, v) ∉ binds) → bindL kindOf binds m x = m x
  | [], _, _ => rfl
  | (n, v) :: r, m, h => by
    unfold bindL
    rw [bindL_out fun w hw => h w (List.mem_cons_of_mem _ hw)]
    split
    · have : x ≠ n := by rintro rfl; exact h v List.mem_cons_self
      simp [this]
    · rfl
theorem bindC_out {kindOf : Str → Option NameKind} {x : Str} : ∀ {binds : List (Str × Value)} {m : Str → Option Value}, (∀ v, (x, v) ∉ binds) → bindC kindOf binds m x = m x
  | [], _, _ => rfl
  | (n, v) :: r, m, h => by
    unfold bindC
    rw [bindC_out fun w hw => h w (List.mem_cons_of_mem _ hw)]
    split
    · rfl
    · have : x ≠ n := by rintro rfl; exact h v List.mem_cons_self
      simp [this]
theorem bindL_get {kindOf : Str → Option NameKind} {x : Str} {v : Value} : ∀ {P : List Str} {vs : List Value} {i : Nat} {m : Str → Option Value}, P.Nodup → P[i]? = some x → vs[i]? = some v → kindOf x = some .local →
    bindL kindOf (P.zip vs) m x = some v
  | [], _, _, _, _, h, _, _ => by simp at h
  | _ :: _, [], _, _, _, _, h, _ => by simp at h
  | p :: P, w :: vs, 0, m, nd, h1, h2, hk => by
    simp at h1 h2; subst h1; subst h2
    show bindL kindOf ((p, w) :: P.zip vs) m p = _
    unfold bindL
    rw [bindL_out fun v hv => (List.nodup_cons.mp nd).1 (List.of_mem_zip hv).1, if_pos hk]
    simp
  | p :: P, w :: vs, i + 1, m, nd, h1, h2, hk => by
    show bindL kindOf ((p, w) :: P.zip vs) m x = _
    unfold bindL
    exact bindL_get (i := i) (List.nodup_cons.mp nd).2 (by simpa using h1) (by simpa using h2) hk
theorem bindC_get {kindOf : Str → Option NameKind} {x : Str} {v : Value} : ∀ {P : List Str} {vs : List Value} {i : Nat} {m : Str → Option Value}, P.Nodup → P[i]? = some x → vs[i]? = some v → kindOf x ≠ some .local →
    bindC kindOf (P.zip vs) m x = some v
  | [], _, _, _, _, h, _, _ => by simp at h
  | _ :: _, [], _, _, _, _, h, _ => by simp at h
  | p :: P, w :: vs, 0, m, nd, h1, h2, hk => by
    simp at h1 h2; subst h1; subst h2
    show bindC kindOf ((p, w) :: P.zip vs) m p = _
    unfold bindC
    rw [bindC_out fun v hv => (List.nodup_cons.mp nd).1 (List.of_mem_zip hv).1, if_neg hk]
    simp
  | p :: P, w :: vs, i + 1, m, nd, h1, h2, hk => by
    show bindC kindOf ((p, w) :: P.zip vs) m x = _
    unfold bindC
    exact bindC_get (i := i) (List.nodup_cons.mp nd).2 (by simpa using h1) (by simpa using h2) hk

/-- the names' values at the entry -/
def start (N : List Str) (vs : List V) : St := vs.map some ++ List.replicate (N.length - vs.length) none

/-- the context of a def's body, at its entry; an exception leaves the frame, then lies as CX says -/
def cxOf (CX : CXT) (P : Program) (w : World) (K : PySem.W.Frag) (mg : Str → Option Value) (base : Heap) (N : List Str) (qual : Str) (scope : Scope) (f : Addr) (cd : Value) (A : Around) (outer : List Env) (s : Shared) (H : Hp) (E : XK) : Cx where
  prog := P
  w := w
  K := K
  mg := mg
  base := base
  A := A.deeper (envOfC qual scope s.heap.objs.size f cd)
  N := N
  s₀ := s
  H₀ := H
  env := envOfC qual scope s.heap.objs.size f cd
  outer := outer
  stack := envOfC qual scope s.heap.objs.size f cd :: outer
  ex := []
  calm := true
  fn := fun _ => true
  pn := []
  xe := fun e s' => wpAny (model P w) (A.deeper (envOfC qual scope s.heap.objs.size f cd)) (leaving (envOfC qual scope s.heap.objs.size f cd) e) (fun _ s'' => CX outer H s E e s'') (fun e' s'' => CX outer H s E e' s'') s'

theorem cell_has {sc : Scope} {n : Nat} {x : Str} (h : sc.names.lookup x = some .cell) : ∃ c, (cellsFrom n sc.names []).lookup x = some c := by
  have q := PySem.W.cellsFrom_some sc.names n [] (.inl h)
  exact Option.isSome_iff_exists.mp q

theorem inv_start {CX : CXT} {P : Program} {w : World} {K : PySem.W.Frag} {mg : Str → Option Value} {base : Heap} {N ps : List Str} {qual : Str} {scope : Scope} {f : Addr} {cd : Value} {A : Around} {outer : List Env} {s s1 : Shared} {H : Hp} {E : XK} {us : List Value} {vs : List V}
    (S : FnScope N ps scope) (hd : A.handled = none) (e0 : Env0 P w K mg base A outer s H) (hl : vs.length = ps.length) (r : Vals vs us)
    (x : InCallC s s.heap.objs.size (bindL (envOfC qual scope s.heap.objs.size f cd).kindOf (ps.zip us) fun _ => none) (cellsFrom (s.heap.objs.size + 1) scope.names []) (bindC (envOfC qual scope s.heap.objs.size f cd).kindOf (ps.zip us) fun _ => none) s1) :
    Inv (cxOf CX P w K mg base N qual scope f cd A outer s H E) [] (start N vs) H s1 := by
  have hpl : ps.length ≤ N.length := by have := congrArg List.length S.pre; rw [List.length_take] at this; omega
  obtain ⟨h1, tk, rfl, hk⟩ := x.done
  have noA : ∀ b : Addr, b ∉ (cxOf CX P w K mg base N qual scope f cd A outer s H E).ex := fun b z => absurd (show b ∈ ([] : List Addr) from z) (by simp)
  refine ⟨⟨e0.mod, S.kind, rfl, rfl, Nat.le_refl _, fun y z c h1 h2 => ?_, fun y hy => ?_, fun y c _ h => ?_, fun _ => hd, Around.frames_deeper e0.frames, .inr ⟨rfl, rfl⟩, fun b z => absurd z (noA b), e0.bs, e0.bsz, fun b _ _ => noA b, fun b z => absurd z (noA b), e0.funs, e0.frf⟩,
    rfl, e0.bare, Un.kept hk, ⟨_, x.toInCall.ns, fun i y v h1 h2 h3 => ?_⟩, fun y c h => ⟨_, x.cell y c h⟩, e0.hok.fresh (Nat.le_refl _), fun y c h => ?_, fun p hp => absurd (show p ∈ ([] : List (Addr × Obj)) from hp) (by simp), e0.hok.kept hk, ?_⟩
  · exact name_of_addr x.apart (PySem.mem_of_lookup h1) (PySem.mem_of_lookup h2)
  · have hy : scope.names.lookup y = some .cell ∨ scope.names.lookup y = some .free := hy
    rcases hy with hy | hy
    · exact cell_has hy
    · exact absurd rfl (S.nofree _ (PySem.mem_of_lookup hy))
  · exact Nat.le_of_lt (x.above y c (PySem.mem_of_lookup h))
  · have hi : i < vs.length := by
      unfold start at h2
      by_cases hi : i < vs.length
      · exact hi
      · rw [List.getElem?_append_right (by simpa using hi)] at h2
        rw [List.getElem?_replicate] at h2
        split at h2 <;> cases h2
    have ha : vs[i]? = some v := by
      unfold start at h2
      rw [List.getElem?_append_left (by simpa using hi), List.getElem?_map] at h2
      cases e : vs[i]? with
      | none => rw [e] at h2; cases h2
      | some a => rw [e] at h2; cases h2; rfl
    obtain ⟨u, hu, rv⟩ := r.get ha
    have hp : ps[i]? = some y := by
      rw [← S.pre, List.getElem?_take_of_lt (by omega)]; exact h1
    have ndP : ps.Nodup := by rw [← S.pre]; exact S.nd.sublist (List.take_sublist _ _)
    refine ⟨u, rv, ?_⟩
    rcases S.par y (List.mem_of_getElem? hp) with k | k
    · exact .inl ⟨k, bindL_get ndP hp hu k⟩
    · obtain ⟨c, e⟩ := cell_has (n := s.heap.objs.size + 1) k
      refine .inr ⟨.inl k, c, e, ?_⟩
      have q := x.cell y c e
      rw [bindC_get ndP hp hu (by show scope.names.lookup y ≠ _; rw [k]; decide)] at q
      exact q
  · exact e0.hok.fresh (Nat.le_of_lt (x.above y c (PySem.mem_of_lookup h)))
  · unfold start
    show _ = N.length
    rw [List.length_append, List.length_map, List.length_replicate]
    omega

/-- THE RULE: a def (or a method) of the text, by its body. The body's reading t is chosen for each entry; it is run at the parameters' values -/
theorem fn_of {CX : CXT} {P : Program} {w : World} {K : PySem.W.Frag} {mg : Str → Option Value} {base : Heap} {k : Nat} {f : Addr} {name qual : Str} {params : Arguments} {body : List Stmt} {scope : Scope} {dV kV doc pm cdv ct oc : Value} {an od : Option Addr}
    {osl : Array (Option Value)} {N ps : List Str} {sp : Sp} (lk : K.lookup f = some ⟨oc, od, .func (PySem.W.fnOf name qual params body scope dV kV doc pm an cdv ct), osl⟩) (hcd : PySem.W.codeIn K cdv qual = true) (S : FnScope N ps scope)
    (len : ∀ vs H Q E, sp vs H Q E → vs.length = ps.length)
    (hbody : ∀ (A : Around) (outer : List Env) (s : Shared) (H : Hp) (vs : List V) (Q : VK) (E : XK), Room k (A.deeper (envOfC qual scope s.heap.objs.size f cdv)) → sp vs H Q E →
      ∃ t, PSs (cxOf CX P w K mg base N qual scope f cdv A outer s H E) body t ∧ t { nx := fun _ H' => Q .non H', rt := Q } (start N vs) H) :
    FnOk P w K mg base CX (k + 1) f (PySem.W.fnOf name qual params body scope dV kV doc pm an cdv ct) ps sp := by
  refine ⟨len, fun A outer s H args us vs Q E hr e0 hb r hsp => ?_⟩
  have hl := len _ _ _ _ hsp
  have KX : K.In s.heap := e0.mod.kin.keeps fun b o e => (e0.bs b o e).1
  have lim : s.heap.NoLimit := e0.mod.nolimit.keeps fun b o e => (e0.bs b o e).1
  have hkind : ∀ y ∈ ps.zip us, scope.names.lookup y.1 = some .local ∨ (scope.names.lookup y.1 = some .cell ∧ ((cellsFrom (s.heap.objs.size + 1) scope.names []).lookup y.1).isSome = true) := fun ⟨n, v⟩ hy => by
    rcases S.par n (List.of_mem_zip hy).1 with q | q
    · exact .inl q
    · exact .inr ⟨q, PySem.W.cellsFrom_some _ _ _ (.inl q)⟩
  refine codeAny_call_function hr.depth (KX _ _ lk) rfl S.co S.gen rfl (PySem.W.codeRec_of KX hcd) (hb _ _ _ _ ?_)
  refine wpAny_newFunctionEnv_cells S.kind hkind fun env he s1 x => ?_
  subst he
  refine ⟨lim.keeps x.toInCall.keep, codeAny_func ?_⟩
  obtain ⟨t, ht, hq⟩ := hbody A outer s H vs Q E (hr.deeper _) hsp
  have I : Inv (cxOf CX P w K mg base N qual scope f cdv A outer s H E) [] (start N vs) H s1 := inv_start S hr.hd e0 hl r x
  refine wpAny_mono (ht [] s1 (start N vs) H _ I hq) (fun fl s' hs => ?_) fun e s' hs => hs
  have fin : ∀ {σ' : St} {H' : Hp} {v : V} {u : Value}, Inv (cxOf CX P w K mg base N qual scope f cdv A outer s H E) [] σ' H' s' → RelV v u → Q v H' → CE outer P w H s Q u s' :=
    fun {σ' H' v u} J rv q => ⟨v, H', J.os, J.bare, J.base, J.hok, rv, q⟩
  cases fl with
  | ret u =>
    obtain ⟨v, σ', H', J, rv, q⟩ := hs
    exact fin J rv q
  | next =>
    obtain ⟨σ', H', J, q⟩ := hs
    exact fin (v := V.non) (u := Value.none) J rfl q
  | brk =>
    obtain ⟨_, _, _, q⟩ := hs
    exact False.elim q
  | cont =>
    obtain ⟨_, _, _, q⟩ := hs
    exact False.elim q
end L2

namespace L2
open PySem PySem.Spec PyProof.Rows
section
variable {X : Cx} {x : Str} {p pos : Pos} {e : Expr} {es : List Expr} {t : TA} {id T : String} {r : List V → Hp → VK → Prop}

def tCB (r : List V → Hp → VK → Prop) (t : TA) : TE := fun σ H Q => t σ H fun vs H1 => r vs H1 Q
/-- f(e, ..), f a built-in function -/
theorem pe_callB (hc : CallR X (.builtin id) r) (hg : Gl X x) (hm : X.mg x = none) (hv : bootBuiltins x = some (.builtin id)) (ha : PA X (e :: es) t) (hn : x ≠ "__name__" := by decide) (hdb : (x == ("__debug__" : Str)) = false := by decide)
    (he : starEach (e :: es) X.env = (false, eval e X.env) :: starEach es X.env := by rfl) (hpl : (backTo pos (starEach es X.env)).any (·.1) = false := by rfl) : PE X (.Call (.Name x p) (e :: es) [] pos) (tCB r t) := by
  intro pins s σ H Q I h
  refine wpAny_Call_Name_kw (ld_blt I hg hm hv ?_ hn hdb)
  exact PyProof.Rows.callWith_builtin1 (thn (ha pos pins s σ H _ I h) fun us s1 ⟨vs, H1, I1, r1, q1⟩ => hc pins s1 σ H1 vs us Q I1 r1 q1) he hpl
/-- T(e, ..), T a built-in type -/
theorem pe_callTy (hc : CallR X (.type T) r) (hg : Gl X x) (hm : X.mg x = none) (hv : bootBuiltins x = some (.type T)) (ha : PA X (e :: es) t) (hn : x ≠ "__name__" := by decide) (hdb : (x == ("__debug__" : Str)) = false := by decide)
    (he : starEach (e :: es) X.env = (false, eval e X.env) :: starEach es X.env := by rfl) (hpl : (backTo pos (starEach es X.env)).any (·.1) = false := by rfl) : PE X (.Call (.Name x p) (e :: es) [] pos) (tCB r t) := by
  intro pins s σ H Q I h
  refine wpAny_Call_Name_kw (ld_blt I hg hm hv ?_ hn hdb)
  exact PyProof.Rows.callWith_type1 (thn (ha pos pins s σ H _ I h) fun us s1 ⟨vs, H1, I1, r1, q1⟩ => hc pins s1 σ H1 vs us Q I1 r1 q1) he hpl
end
end L2

namespace HT
open PySem PyProof.Rows

section
open PySem.SeqAt
open PySem.AutoSeq1 (wpAny_loadPart')
open PySem.MeetsSeq PySem.MeetsSeq2 PySem.MeetsSeq3

end

section
variable {prog : Program} {w : World} {A : Around} {E : Value → Shared → Prop} {s : Shared}

/-- a slice's bound as a place among n (d where it is left out) -/
def sIx (n d : Nat) : Option Int → Nat
  | none => d
  | some v => if v < 0 then (v + (n : Int)).toNat else min v.toNat n
end
end HT

namespace L2
open PySem PySem.Spec PyProof.Rows

abbrev TO := St → Hp → (Option Int → Hp → Prop) → Prop
def tNoPart : TO := fun _ H Q => Q none H
def tPart (t : TE) : TO := fun σ H Q => t σ H fun x H1 => ∃ i, x = .int i ∧ Q (some i) H1

section
variable {X : Cx} {e : Expr} {te : TE} {lo hi : Option Expr} {tl th : TO} {pos p2 : Pos}

/-- what a slice of a value is, by values: the slice object stands at sl -/
def SlR (X : Cx) (r : V → Option Int → Option Int → Hp → VK → Prop) : Prop :=
  ∀ (pins : List (Addr × Obj)) (s : Shared) (σ : St) (H : Hp) (x : V) (v vl vu : Value) (lo hi : Option Int) (sl : Addr) (Q : VK), Inv X pins σ H s → RelV x v → s.heap.IsSliceOf sl vl vu .none → IsPart vl lo → IsPart vu hi → r x lo hi H Q →
    ∃ T id, typeLookup (.type T) "__getitem__" = pure (some (.builtin id)) ∧ s.TypeIs v T ∧ wpAny (model X.prog X.w) X.A (getItem v (.ref sl)) (EP X pins σ Q) X.xe s
theorem SlR.or {r r' : V → Option Int → Option Int → Hp → VK → Prop} (h : SlR X r) (h' : SlR X r') : SlR X (fun x lo hi H Q => r x lo hi H Q ∨ r' x lo hi H Q) := by
  intro pins s σ H x v vl vu lo hi sl Q I rx hs pl pu q
  rcases q with q | q
  · exact h pins s σ H x v vl vu lo hi sl Q I rx hs pl pu q
  · exact h' pins s σ H x v vl vu lo hi sl Q I rx hs pl pu q
def tSl (r : V → Option Int → Option Int → Hp → VK → Prop) (te : TE) (tl th : TO) : TE := fun σ H Q => te σ H fun x H1 => tl σ H1 fun l H2 => th σ H2 fun u H3 => r x l u H3 Q
/-- the items of xs[lo:hi] -/
def cutV (xs : List V) (lo hi : Option Int) : List V := (xs.drop (HT.sIx xs.length 0 lo)).take (HT.sIx xs.length xs.length hi - HT.sIx xs.length 0 lo)
end
end L2

namespace L2
open PySem PySem.Spec PyProof.Rows

/-- the place that an index of any sign means -/
def ixN (n : Nat) (i : Int) : Option Nat := if 0 ≤ i then (if i < n then some i.toNat else none) else if -(n : Int) ≤ i then some (i + n).toNat else none
def atI {α : Type} (xs : List α) (i : Int) : Option α := (ixN xs.length i).bind fun j => xs[j]?
theorem ixN_seq {n : Nat} {i : Int} {j : Nat} (h : ixN n i = some j) : seqIndex? i n = some j ∧ j < n ∧ -(n : Int) ≤ i ∧ i < n := by
  unfold ixN at h
  by_cases h0 : 0 ≤ i
  · rw [if_pos h0] at h
    by_cases h1 : i < n
    · rw [if_pos h1] at h
      have e : i.toNat = j := Option.some.inj h
      exact ⟨by rw [seqIndex_of h0 h1, e], by omega, by omega, h1⟩
    · rw [if_neg h1] at h; cases h
  · rw [if_neg h0] at h
    by_cases h1 : -(n : Int) ≤ i
    · rw [if_pos h1] at h
      have e : (i + n).toNat = j := Option.some.inj h
      exact ⟨by rw [seqIndex_neg (by omega) h1, e], by omega, h1, by omega⟩
    · rw [if_neg h1] at h; cases h
theorem atI_get {α : Type} {xs : List α} {i : Int} {v : α} (h : atI xs i = some v) : ∃ j, seqIndex? i xs.length = some j ∧ xs[j]? = some v ∧ j < xs.length ∧ -(xs.length : Int) ≤ i ∧ i < xs.length := by
  unfold atI at h
  cases e : ixN xs.length i with
  | none => rw [e] at h; cases h
  | some j =>
    rw [e] at h
    obtain ⟨h1, h2, h3, h4⟩ := ixN_seq e
    exact ⟨j, h1, h, h2, h3, h4⟩
theorem atI_nat {α : Type} {xs : List α} {j : Nat} {v : α} (h : xs[j]? = some v) : atI xs (j : Int) = some v := by
  have hj : j < xs.length := (List.getElem?_eq_some_iff.mp h).1
  have e : ixN xs.length (j : Int) = some j := by
    unfold ixN
    rw [if_pos (by omega), if_pos (by omega)]; simp
  unfold atI; rw [e]; exact h
/-- what stands as an index of a plain subscript -/
def PlainIx (b : Expr) : Prop := ∀ o i, subscripted b false o i = operate [o, i] (getItem o i)
/-- a subscript by values -/
def IxR (X : Cx) (r : R2) : Prop :=
  ∀ (value slice : Expr) (pins : List (Addr × Obj)) (s : Shared) (σ : St) (H : Hp) (x y : V) (v u : Value) (Q : VK), Inv X pins σ H s → RelV x v → RelV y u → r x y H Q →
    subscripted slice false v u = operate [v, u] (getItem v u) → wpAny (model X.prog X.w) X.A (subscriptTail value slice v u) (EP X pins σ Q) X.xe s
/-- a call of a builtin's method by values: the receiver, the arguments -/
def MtR (X : Cx) (id : String) (r : V → List V → Hp → VK → Prop) : Prop :=
  ∀ (pins : List (Addr × Obj)) (s : Shared) (σ : St) (H : Hp) (x : V) (xs : List V) (v : Value) (us : List Value) (Q : VK), Inv X pins σ H s → RelV x v → Vals xs us → r x xs H Q →
    wpAny (model X.prog X.w) X.A (call (.builtin id) (v :: us)) (EP X pins σ Q) X.xe s
section
variable {X : Cx} {a b : Expr} {ta tb : TE} {pos : Pos}
theorem IxR.or {r r' : R2} (h : IxR X r) (h' : IxR X r') : IxR X (fun x y H Q => r x y H Q ∨ r' x y H Q) := by
  intro value slice pins s σ H x y v u Q I rx ry q hs
  rcases q with q | q
  · exact h value slice pins s σ H x y v u Q I rx ry q hs
  · exact h' value slice pins s σ H x y v u Q I rx ry q hs
theorem MtR.or {id : String} {r r' : V → List V → Hp → VK → Prop} (h : MtR X id r) (h' : MtR X id r') : MtR X id (fun x xs H Q => r x xs H Q ∨ r' x xs H Q) := by
  intro pins s σ H x xs v us Q I rx rs q
  rcases q with q | q
  · exact h pins s σ H x xs v us Q I rx rs q
  · exact h' pins s σ H x xs v us Q I rx rs q
/-- a[b] -/
theorem pe_ix {r : R2} (hr : IxR X r) (ha : PE X a ta) (hb : PE X b tb) (hs : PlainIx b) : PE X (.Subscript a b pos) (tOp r ta tb) := by
  intro pins s σ H Q I h
  exact Subscript_ (binT ha hb I h fun v u s2 x y H2 I2 rx ry q => hr a b pins s2 σ H2 x y v u Q I2 rx ry q (hs _ _))

def rIxL (K : PySem.W.Frag) : R2 := fun x y H Q => ∃ p xs i v, x = .ref p ∧ y = .int i ∧ SqL K H p xs ∧ atI xs i = some v ∧ Q v H
def rIxT (K : PySem.W.Frag) : R2 := fun x y H Q => ∃ p xs i v, x = .ref p ∧ y = .int i ∧ SqT K H p xs ∧ atI xs i = some v ∧ Q v H
def rIxS : R2 := fun x y H Q => ∃ z i c, x = .str z ∧ y = .int i ∧ z.length ≤ sizeLine ∧ atI z.cps.toList i = some c ∧ Q (.str ⟨#[c]⟩) H
theorem ix_list : IxR X (rIxL X.K) := by
  intro value slice pins s σ H x y v u Q I rx ry h hs
  obtain ⟨p, xs, i, z, rfl, rfl, hq, he, q⟩ := h
  cases rx
  obtain ⟨t, rfl⟩ := ry
  obtain ⟨its, r, pl, hz⟩ := I.list hq
  obtain ⟨j, h1, h2, h3, h4, h5⟩ := atI_get he
  obtain ⟨w, ew, rw'⟩ := r.get h2
  have hl := r.length
  have hn := line63
  have fin : EP X pins σ Q w s := ⟨z, H, I, rw', q⟩
  by_cases h0 : 0 ≤ i
  · have hj : i.toNat = j := by
      rw [seqIndex_of h0 h5] at h1
      exact Option.some.inj h1
    exact item_listR pl.isList h0 (by omega) (by rw [hj]; simpa using ew) fin hs
  · have hj : (i + (its.toArray.size : Int)).toNat = j := by
      rw [seqIndex_neg (by omega) h4] at h1
      rw [List.size_toArray, ← hl]
      exact Option.some.inj h1
    exact subscriptTail_builtinR (x := w) pl.isList.typeIs slot_list_getitem.lookup
      (wpAny_getItem_list_neg (Q := fun r s' => r = w ∧ EP X pins σ Q r s') pl.isList (by omega) (by rw [List.size_toArray] <;> omega) (by omega) (by rw [hj]; simpa using ew) ⟨rfl, fin⟩) hs
theorem ix_str : IxR X rIxS := by
  intro value slice pins s σ H x y v u Q I rx ry h hs
  obtain ⟨z, i, c, rfl, rfl, hz, he, q⟩ := h
  obtain ⟨t, rfl⟩ := rx
  obtain ⟨t', rfl⟩ := ry
  obtain ⟨j, h1, h2, h3, h4, h5⟩ := atI_get he
  have hl : z.cps.toList.length = z.length := by simp [Str.length]
  rw [hl] at h1 h4 h5
  have hn := line63
  exact tail_any (typeIs_str s z t) slot_str_getitem.lookup (getItem_str (c := c) (by
    have e1 : decide (i < -(2 ^ 63 : Int)) = false := decide_eq_false (by omega)
    have e2 : decide (i ≥ 2 ^ 63) = false := decide_eq_false (by omega)
    rw [e1, e2, Bool.or_false]) (by rw [h1]; simpa using h2) ⟨.str ⟨#[c]⟩, H, I.tok _, ⟨_, rfl⟩, q⟩) hs
/-- list, tuple or str -/
def rIx (K : PySem.W.Frag) : R2 := fun x y H Q => rIxL K x y H Q ∨ rIxT K x y H Q ∨ rIxS x y H Q
theorem Inv.lst {pins : List (Addr × Obj)} {σ : St} {H : Hp} {s : Shared} {p : Addr} {xs : List V} (I : Inv X pins σ H s) (h : H p = some (.lst xs)) :
    ∃ (its : List Value) (n : Nat), Vals xs its ∧ s.heap.get? p = some { cls := .type "list", data := .seq its.toArray n } ∧ xs.length ≤ sizeLine := by
  obtain ⟨z, its, n, r, e⟩ := I.hok p _ h
  exact ⟨its, n, r, e, z⟩
def rSetL : V → V → V → Hp → (Hp → Prop) → Prop := fun o i v H Q => ∃ p xs k j, o = .ref p ∧ i = .int k ∧ H p = some (.lst xs) ∧ ixN xs.length k = some j ∧ Q (upd H p (.lst (xs.set j v)))
/-- xs[lo:hi] of a list: a new list -/
def rSlL (K : PySem.W.Frag) : V → Option Int → Option Int → Hp → VK → Prop := fun x lo hi H Q => ∃ a xs, x = .ref a ∧ SqL K H a xs ∧ ∀ p, H p = none → Q (.ref p) (upd H p (.lst (cutV xs lo hi)))
def flatV : V → Bool
  | .non => true
  | .bl _ => true
  | .int _ => true
  | .str _ => true
  | _ => false
/-- == of flat values -/
def eqV : V → V → Bool
  | .non, .non => true
  | .bl a, .bl b => a == b
  | .bl a, .int b => (if a then 1 else 0) == b
  | .int a, .bl b => a == (if b then 1 else 0)
  | .int a, .int b => a == b
  | .str a, .str b => a == b
  | _, _ => false
theorem eqAt_V {A : Around} {s : Shared} {y x : V} {u v : Value} (ry : RelV y u) (rx : RelV x v) (fy : flatV y = true) (fx : flatV x = true) : SeqAt.EqAt A s u v (eqV y x) := by
  cases y with
  | non =>
    cases ry
    cases x with
    | non => cases rx; exact SeqAt.EqAt.same _
    | bl b => cases rx; exact SeqAt.EqAt.none_bool b
    | int b => obtain ⟨t, rfl⟩ := rx; exact SeqAt.EqAt.none_int b t
    | str b => obtain ⟨t, rfl⟩ := rx; exact SeqAt.EqAt.none_str b t
    | _ => exact absurd (show false = true from fx) Bool.false_ne_true
  | bl a =>
    cases ry
    cases x with
    | non => cases rx; exact SeqAt.EqAt.bool_none a
    | bl b => cases rx; exact SeqAt.EqAt.bool_bool a b
    | int b => obtain ⟨t, rfl⟩ := rx; exact SeqAt.EqAt.bool_int a b t
    | str b => obtain ⟨t, rfl⟩ := rx; exact SeqAt.EqAt.bool_str a b t
    | _ => exact absurd (show false = true from fx) Bool.false_ne_true
  | int a =>
    obtain ⟨t', rfl⟩ := ry
    cases x with
    | non => cases rx; exact SeqAt.EqAt.int_none a t'
    | bl b => cases rx; exact SeqAt.EqAt.int_bool a t' b
    | int b => obtain ⟨t, rfl⟩ := rx; exact SeqAt.EqAt.int_int a t' b t
    | str b => obtain ⟨t, rfl⟩ := rx; exact SeqAt.EqAt.int_str a t' b t
    | _ => exact absurd (show false = true from fx) Bool.false_ne_true
  | str a =>
    obtain ⟨t', rfl⟩ := ry
    cases x with
    | non => cases rx; exact SeqAt.EqAt.str_none a t'
    | bl b => cases rx; exact SeqAt.EqAt.str_bool a t' b
    | int b => obtain ⟨t, rfl⟩ := rx; exact SeqAt.EqAt.str_int a t' b t
    | str b => obtain ⟨t, rfl⟩ := rx; exact SeqAt.EqAt.str_str a t' b t
    | _ => exact absurd (show false = true from fx) Bool.false_ne_true
  | _ => exact absurd (show false = true from fy) Bool.false_ne_true
theorem call_len_seq : CallR X (.builtin "len") (fun xs H Q => ∃ p ys, xs = [.ref p] ∧ (SqL X.K H p ys ∨ SqT X.K H p ys) ∧ Q (.int ys.length) H) := by
  intro pins s σ H xs us Q I r h
  obtain ⟨p, ys, rfl, hq, q⟩ := h
  obtain ⟨u, rfl, rx⟩ := vals1 r
  cases rx
  have hn := line63
  rcases hq with hq | hq
  · obtain ⟨its, r', pl, hz⟩ := I.list hq
    have hlen := r'.length
    exact Calls.call_len_list pl.isList (by simp only [List.size_toArray] <;> omega) ⟨.int ys.length, H, I.tok _, ⟨s.toks + 1, by rw [List.size_toArray, hlen]⟩, q⟩
  · obtain ⟨its, r', pl, hz⟩ := I.tuple hq
    have hlen := r'.length
    exact len_tuple pl (by simp only [List.size_toArray] <;> omega) ⟨.int ys.length, H, I.tok _, ⟨s.toks + 1, by rw [List.size_toArray, hlen]⟩, q⟩
theorem call_len_str : CallR X (.builtin "len") (fun xs H Q => ∃ z, xs = [.str z] ∧ z.length ≤ sizeLine ∧ Q (.int z.length) H) := by
  intro pins s σ H xs us Q I r h
  obtain ⟨z, rfl, hz, q⟩ := h
  obtain ⟨u, rfl, t, rfl⟩ := vals1 r
  have hn := line63
  exact len_str (by omega) ⟨.int z.length, H, I.tok _, ⟨_, rfl⟩, q⟩
theorem CallR.or {f : Value} {r r' : List V → Hp → VK → Prop} (h : CallR X f r) (h' : CallR X f r') : CallR X f (fun xs H Q => r xs H Q ∨ r' xs H Q) := by
  intro pins s σ H xs us Q I rs q
  rcases q with q | q
  · exact h pins s σ H xs us Q I rs q
  · exact h' pins s σ H xs us Q I rs q
/-- the value is of that builtin type -/
def tyV (K : PySem.W.Frag) (T : String) (x : V) (H : Hp) : Prop := match x with
  | .str _ => T = "str"
  | .int _ => T = "int"
  | .ref p => (T = "list" ∧ ∃ xs, SqL K H p xs) ∨ (T = "tuple" ∧ ∃ o, K.lookup p = some o ∧ o.cls = .type "tuple" ∧ o.dict = none) ∨
      (T = "dict" ∧ ((∃ kvs, H p = some (.dK kvs)) ∨ ∃ kvs, H p = some (.dT kvs))) ∨ (T = "set" ∧ ∃ S n, H p = some (.set S n))
  | _ => False
theorem tyV_is {pins : List (Addr × Obj)} {σ : St} {H : Hp} {s : Shared} {T : String} {x : V} {v : Value} (I : Inv X pins σ H s) (r : RelV x v) (ty : tyV X.K T x H) :
    s.TypeIs v T ∧ ∀ a, v = .ref a → ∃ ob, s.heap.get? a = some ob ∧ ob.dict = none := by
  cases x with
  | str z =>
    obtain ⟨t, rfl⟩ := r
    cases (show T = "str" from ty)
    exact ⟨typeIs_str s z t, fun _ e => nomatch e⟩
  | int i =>
    obtain ⟨t, rfl⟩ := r
    cases (show T = "int" from ty)
    exact ⟨typeIs_int s i t, fun _ e => nomatch e⟩
  | ref p =>
    cases r
    rcases ty with ⟨rfl, xs, hq⟩ | ⟨rfl, o, hk, hc, hd⟩ | ⟨rfl, hk⟩ | ⟨rfl, S, n, hk⟩
    · obtain ⟨its, _, pl, _⟩ := I.list hq
      refine ⟨pl.isList.typeIs, fun a e => ?_⟩
      cases e
      obtain ⟨o, n, e, c, hd, _⟩ := pl
      exact ⟨o, e, hd⟩
    · refine ⟨⟨o, I.kIn p o hk, hc⟩, fun a e => ?_⟩
      cases e
      exact ⟨o, I.kIn _ o hk, hd⟩
    · have z : ∃ o, s.heap.get? p = some o ∧ o.ExactDict := by
        rcases hk with ⟨kvs, hk⟩ | ⟨kvs, hk⟩
        · obtain ⟨_, _, _, _, o, _, _, e, ex, _⟩ := I.hok p _ hk
          exact ⟨o, e, ex⟩
        · obtain ⟨_, _, _, _, o, _, _, e, ex, _⟩ := I.hok p _ hk
          exact ⟨o, e, ex⟩
      obtain ⟨o, e, ex⟩ := z
      refine ⟨⟨o, e, ex.1⟩, fun a e2 => ?_⟩
      cases e2
      exact ⟨o, e, ex.2.1⟩
    · obtain ⟨o, _, _, _, e, ex, _⟩ := I.hok p _ hk
      refine ⟨⟨o, e, ex.1⟩, fun a e2 => ?_⟩
      cases e2
      exact ⟨o, e, ex.2.1⟩
  | _ => exact False.elim ty
def tBM0 (K : PySem.W.Frag) (T : String) (r : V → List V → Hp → VK → Prop) (to : TE) : TE := fun σ H Q => to σ H fun x H1 => tyV K T x H1 ∧ r x [] H1 Q
def tBM (K : PySem.W.Frag) (T : String) (r : V → List V → Hp → VK → Prop) (to : TE) (t : TA) : TE := fun σ H Q => to σ H fun x H1 => tyV K T x H1 ∧ t σ H1 fun xs H2 => r x xs H2 Q
variable {o e : Expr} {es : List Expr} {to : TE} {t : TA} {name : Str} {apos cpos : Pos} {T id : String} {r : V → List V → Hp → VK → Prop}
theorem pe_bm (pa : PlainAttrs T) (slot : Slot T name id) (hty : typeOf (.builtin id) = pure (.type "method_descriptor")) (hm : MtR X id r) (ho : PE X o to) (ha : PA X (e :: es) t)
    (hbase : attributeBase o name X.env (eval o X.env) = eval o X.env := by rfl)
    (hfew : ((backTo cpos (starEach (e :: es) X.env)).all (fun x => !x.1) && (backToKw cpos (keywordEach [] X.env)).all (fun x => x.1.isSome)
      && decide ((e :: es).length + ([] : List Keyword).length + (if ([] : List Keyword).isEmpty then 0 else 1) < 30)) = true := by rfl)
    (hline : (apos.endLine == cpos.line) = true := by rfl) (hs : starEach (e :: es) X.env = (false, eval e X.env) :: starEach es X.env := by rfl) (hplain : (backTo cpos (starEach es X.env)).any (·.1) = false := by rfl) :
    PE X (.Call (.Attribute o name apos) (e :: es) [] cpos) (tBM X.K T r to t) := by
  intro pins s σ H Q I h
  refine wpAny_Call_method_late hbase hfew hline rfl (thn (ho pins s σ H _ I h) fun v s1 ⟨x, H1, I1, r1, ty, q1⟩ => ?_)
  obtain ⟨h1, h2⟩ := tyV_is I1 r1 ty
  refine ⟨T, id, pa, slot, hty, h1, h2, ?_⟩
  have hA := ha cpos pins s1 σ H1 _ I1 q1
  rw [hs] at hA ⊢
  refine Calls.callWith_builtin (by show (false || (backTo cpos (starEach es X.env)).any (·.1)) = false; rw [hplain] <;> rfl) (Calls.evalArgs_plain ?_)
  exact thn hA fun us s2 ⟨vs, H2, I2, r2, q2⟩ => hm pins s2 σ H2 x vs v us Q I2 r1 r2 q2
end
end L2

namespace L2
open PySem PySem.Spec PyProof.Rows

def MtM (X : Cx) (id : String) (r : V → List V → Hp → VK → Prop) : Prop :=
  ∀ (pins : List (Addr × Obj)) (s : Shared) (σ : St) (H : Hp) (x : V) (xs : List V) (v : Value) (us : List Value) (Q : VK), Inv X pins σ H s → RelV x v → Vals xs us → r x xs H Q →
    wpAny (model X.prog X.w) X.A (call (.builtin id) (v :: us)) (EP X pins σ Q) X.xe s

theorem Vals.one : ∀ {x : V} {us : List Value}, Vals [x] us → ∃ u, us = [u] ∧ RelV x u
  | _, _, .cons r .nil => ⟨_, rfl, r⟩
theorem Vals.two : ∀ {x y : V} {us : List Value}, Vals [x, y] us → ∃ u v, us = [u, v] ∧ RelV x u ∧ RelV y v
  | _, _, _, .cons r (.cons q .nil) => ⟨_, _, rfl, r, q⟩
theorem Vals.zero : ∀ {us : List Value}, Vals [] us → us = []
  | _, .nil => rfl
theorem Vals.dropLast {xs : List V} {us : List Value} (h : Vals xs us) : Vals xs.dropLast us.dropLast := by
  induction h with
  | nil => exact .nil
  | cons r t ih =>
    cases t with
    | nil => exact .nil
    | cons q t' => exact .cons r ih
theorem Vals.rep {xs : List V} {us : List Value} (h : Vals xs us) : ∀ k : Nat, Vals (List.replicate k xs).flatten (List.replicate k us).flatten
  | 0 => .nil
  | k + 1 => by
    rw [List.replicate_succ, List.replicate_succ, List.flatten_cons, List.flatten_cons]
    exact Vals.append h (Vals.rep h k)
theorem foldl_rep (its : List Value) : ∀ (k : Nat) (acc : List Value),
    List.foldl (fun x1 x2 => x1 ++ x2) acc.toArray (List.replicate k its.toArray) = (acc ++ (List.replicate k its).flatten).toArray
  | 0, acc => by simp
  | k + 1, acc => by
    have e : acc.toArray ++ its.toArray = (acc ++ its).toArray := by simp
    have e2 : (acc ++ its) ++ (List.replicate k its).flatten = acc ++ (List.replicate (k + 1) its).flatten := by
      rw [List.replicate_succ, List.flatten_cons, List.append_assoc]
    rw [← e2, ← foldl_rep its k (acc ++ its), ← e, List.replicate_succ, List.foldl_cons]

section
variable {X : Cx} {pins : List (Addr × Obj)} {σ : St} {H : Hp} {s : Shared} {l b : Addr} {xs ys zs : List V}

theorem Inv.lset {its its' : List Value} {n : Nat} {f : Array Value → Array Value} {t' : Nat} (I : Inv X pins σ H s) (hH : H l = some (.lst xs))
    (e : s.heap.get? l = some { cls := .type "list", data := .seq its.toArray n }) (hf : f its.toArray = its'.toArray) (hv : Vals ys its') (hz : ys.length ≤ sizeLine) :
    Inv X pins σ (upd H l (.lst ys)) { s with heap := s.heap.update l (Obj.mapSeq f), toks := t' } := by
  have q := PySem.IsL.update e f
  rw [hf] at q
  refine I.write (x := l) (e := l) (by rw [hH]; exact trivial) (.inl rfl) (fun b' u hb hu => (Heap.get?_update_other s.heap (Obj.mapSeq f) (Ne.symm hb)).trans hu) ⟨_, q⟩ ?_
  exact ⟨hz, its', _, hv, q⟩
theorem Inv.lnew {its : List Value} {t' : Nat} (I : Inv X pins σ H s) (hv : Vals ys its) (hz : ys.length ≤ sizeLine) :
    Inv X pins σ (upd H s.heap.objs.size (.lst ys)) { s with heap := s.heap.push { cls := .type "list", data := .seq its.toArray }, toks := t' } :=
  I.laid (fun _ _ q => Heap.get?_push_of_some _ q) (Nat.le_refl _) ⟨hz, its, 0, hv, Heap.get?_push_size _ rfl⟩
theorem Inv.fresh (I : Inv X pins σ H s) : H s.heap.objs.size = none := I.hok.fresh (Nat.le_refl _)
theorem Inv.lstM (I : Inv X pins σ H s) (hH : H l = some (.lst xs)) : xs.length ≤ sizeLine ∧ ∃ (its : List Value) (n : Nat), Vals xs its ∧ xs.length = its.length ∧ s.heap.get? l = some { cls := .type "list", data := .seq its.toArray n } := by
  obtain ⟨z, its, n, r, e⟩ := I.hok l _ hH
  exact ⟨z, its, n, r, r.length, e⟩

theorem notLongL {n : Nat} (h : n ≤ sizeLine) : Builtin.List.listTooLong n = false := by
  unfold Builtin.List.listTooLong
  exact decide_eq_false (by omega)
end

section
variable {X : Cx}

def rAppend : V → List V → Hp → VK → Prop := fun x vs H Q => ∃ l xs y, x = .ref l ∧ vs = [y] ∧ H l = some (.lst xs) ∧ xs.length < sizeLine ∧ Q .non (upd H l (.lst (xs ++ [y])))
theorem mt_append : MtM X "list.append" rAppend := by
  intro pins s σ H x vs v us Q I rx rv h
  obtain ⟨l, xs, y, rfl, rfl, hH, hz, q⟩ := h
  cases rx
  obtain ⟨u, rfl, ru⟩ := rv.one
  obtain ⟨z, its, n, r, hl, e⟩ := I.lstM hH
  refine call_meets F.slot_list_append ⟨_, e, rfl⟩ F.entry_list_append (F.args_list_append_2 _ _) (PySem.list_append l its.toArray n u (by rw [List.size_toArray]; omega)) ⟨e, ?_⟩
  refine ⟨.non, _, I.lset (its' := its ++ [u]) hH e (by simp) (r.append (.cons ru .nil)) ?_, rfl, q⟩
  rw [List.length_append, List.length_singleton]
  omega

def rPop : V → List V → Hp → VK → Prop := fun x vs H Q => ∃ l xs y, x = .ref l ∧ vs = [] ∧ H l = some (.lst xs) ∧ xs[xs.length - 1]? = some y ∧ Q y (upd H l (.lst xs.dropLast))
def rCat : R2 := fun x y H Q => ∃ l b xs zs, x = .ref l ∧ y = .ref b ∧ H l = some (.lst xs) ∧ H b = some (.lst zs) ∧ xs.length + zs.length ≤ sizeLine ∧ ∀ p, H p = none → Q (.ref p) (upd H p (.lst (xs ++ zs)))
theorem op_cat : OpR X (binaryOp .Add) rCat := by
  intro pins s σ H x y v u Q I rx ry h
  obtain ⟨l, b, xs, zs, rfl, rfl, hH, hB, hz, q⟩ := h
  cases rx
  cases ry
  obtain ⟨z, its, n, r, hl, e⟩ := I.lstM hH
  obtain ⟨z2, its2, n2, r2, hl2, e2⟩ := I.lstM hB
  refine PySem.P.add_list e e2 ?_ (by rw [List.size_toArray, List.size_toArray]; omega)
  have ea : its.toArray ++ its2.toArray = (its ++ its2).toArray := by simp
  rw [ea]
  exact ⟨.ref _, _, I.lnew (t' := s.toks) (r.append r2) (by rw [List.length_append]; omega), rfl, q _ I.fresh⟩
/-- a list times an int (a negative one is nothing) -/
def rRep : R2 := fun x y H Q => ∃ l k xs, x = .ref l ∧ y = .int k ∧ H l = some (.lst xs) ∧ -(2 ^ 63) ≤ k ∧ k < 2 ^ 63 ∧ xs.length * k.toNat ≤ sizeLine ∧
  ∀ p, H p = none → Q (.ref p) (upd H p (.lst (List.replicate k.toNat xs).flatten))
theorem len_rep {α : Type} (xs : List α) (k : Nat) : (List.replicate k xs).flatten.length = k * xs.length := by
  induction k with
  | zero => simp
  | succ k ih => rw [List.replicate_succ, List.flatten_cons, List.length_append, ih, Nat.succ_mul, Nat.add_comm]
theorem op_rep : OpR X (binaryOp .Mult) rRep := by
  intro pins s σ H x y v u Q I rx ry h
  obtain ⟨l, k, xs, rfl, rfl, hH, h1, h2, hz, q⟩ := h
  cases rx
  obtain ⟨t, rfl⟩ := ry
  obtain ⟨z, its, n, r, hl, e⟩ := I.lstM hH
  have hlen : its.toArray.size * k.toNat ≤ sizeLine := by rw [List.size_toArray, ← hl]; exact hz
  have hcap : ¬ its.toArray.size * k.toNat > (2 ^ 63 - 1) / 8 := by
    have : (sizeLine : Nat) ≤ (2 ^ 63 - 1) / 8 := by decide
    omega
  have hfit : ¬ (!Builtin.List.listFitsIndex k) = true := by
    rw [fitsIndex_both h1 h2]
    exact Bool.false_ne_true
  have hlong : ¬ Builtin.List.listTooLong (its.toArray.size * k.toNat) = true := by
    rw [notLongL hlen]
    exact Bool.false_ne_true
  have hnew : List.foldl (fun x1 x2 => x1 ++ x2) #[] (List.replicate (if its.toArray.isEmpty = true then 0 else k.toNat) its.toArray) = (List.replicate k.toNat its).flatten.toArray := by
    have f0 : ∀ m : Nat, List.foldl (fun x1 x2 => x1 ++ x2) #[] (List.replicate m its.toArray) = (List.replicate m its).flatten.toArray := fun m => by
      have := foldl_rep its m []
      rw [List.nil_append] at this
      exact this
    rw [f0]
    cases its with
    | nil => simp
    | cons a r' => rw [if_neg (by simp)]
  refine wpAny_binaryOp_repeat_ref (T := "list") (U := "int") (by decide) ⟨_, e, rfl⟩ (fun s' => typeIs_int s' k t) noFill_list_mul F.fills_int_mul F.slot_int_rmul repeat_list F.slot_int_index.lookup
    (call_meets F.slot_int_rmul (typeIs_int s k t) F.entry_int_rmul (F.args_int_rmul_2 _ _) (int___rmul___int_list k t l its.toArray n)
      ⟨e, rfl, ⟨_, e, rfl⟩, call_meets F.slot_list_mul ⟨_, e, rfl⟩ F.entry_list_mul (F.args_list_mul_2 _ _) (AutoListH.list___mul___list_int_3 l its.toArray n k t hfit hcap hlong) ⟨e, ?_⟩⟩)
  rw [hnew]
  exact ⟨.ref _, _, I.lnew (t' := s.toks) (r.rep k.toNat) (by rw [len_rep, Nat.mul_comm]; exact hz), rfl, q _ I.fresh⟩

end

section
variable {prog : Program} {w : World} {A : Around} {E : Value → Shared → Prop} {s : Shared}
end

section
variable {X : Cx}
end
end L2


namespace L2
open PySem PySem.Spec PyProof.Rows

section
variable {κ : Type} [DecidableEq κ]
def valV (kvs : List (κ × V)) (k : κ) : Option V := (kvs.find? fun kv => decide (kv.1 = k)).map (·.2)
/-- in its place, or at the end -/
def putK (kvs : List (κ × V)) (k : κ) (v : V) : List (κ × V) :=
  if (kvs.any fun kv => decide (kv.1 = k)) = true then kvs.map (fun kv => if kv.1 = k then (kv.1, v) else kv) else kvs ++ [(k, v)]
def dropK (kvs : List (κ × V)) (k : κ) : List (κ × V) := kvs.filter fun kv => decide (kv.1 ≠ k)

theorem valV_pos {p : κ × V} {r : List (κ × V)} {k : κ} (e : p.1 = k) : valV (p :: r) k = some p.2 := by simp [valV, List.find?_cons, e]
theorem valV_neg {p : κ × V} {r : List (κ × V)} {k : κ} (e : ¬ p.1 = k) : valV (p :: r) k = valV r k := by simp [valV, List.find?_cons, e]
theorem RelO.getD {o : Option V} {u : Option Value} {d : V} {d' : Value} (r : RelO o u) (rd : RelV d d') : RelV (o.getD d) (u.getD d') := by
  cases o with
  | none => cases u with
    | none => exact rd
    | some _ => exact (show False from r).elim
  | some _ => cases u with
    | none => exact (show False from r).elim
    | some _ => exact r

/-- raw tables of the same keys -/
theorem KV.val {kvs : List (κ × V)} {vs : List (κ × Value)} (r : KV kvs vs) (k : κ) : RelO (valV kvs k) (valueAt vs k) := by
  unfold KV at r
  induction r with
  | nil => exact True.intro
  | @cons p q ps qs h t ih =>
    obtain ⟨h1, h2⟩ := h
    by_cases e : p.1 = k
    · have e' : q.1 = k := h1.symm.trans e
      have b : valueAt (q :: qs) k = some q.2 := by simp [valueAt, List.find?_cons, e']
      rw [valV_pos e, b]; exact h2
    · have e' : ¬ q.1 = k := fun z => e (h1.trans z)
      have b : valueAt (q :: qs) k = valueAt qs k := by simp [valueAt, List.find?_cons, e']
      rw [valV_neg e, b]; exact ih
theorem KV.any {kvs : List (κ × V)} {vs : List (κ × Value)} (r : KV kvs vs) (k : κ) : (kvs.any fun kv => decide (kv.1 = k)) = vs.any fun kv => decide (kv.1 = k) := by
  unfold KV at r
  induction r with
  | nil => rfl
  | cons h t ih => rw [List.any_cons, List.any_cons, ih, h.1]
theorem KV.drop {kvs : List (κ × V)} {vs : List (κ × Value)} (r : KV kvs vs) (k : κ) : KV (dropK kvs k) (without vs k) := by
  unfold KV at r ⊢
  unfold dropK without
  induction r with
  | nil => exact .nil
  | @cons p q ps qs h t ih =>
    obtain ⟨h1, h2⟩ := h
    rw [List.filter_cons, List.filter_cons]
    by_cases e : p.1 = k
    · have a : ¬ decide (p.1 ≠ k) = true := by simp [e]
      have b : ¬ decide (q.1 ≠ k) = true := by simp [h1.symm.trans e]
      rw [if_neg a, if_neg b]; exact ih
    · have e' : ¬ q.1 = k := fun z => e (h1.trans z)
      have a : decide (p.1 ≠ k) = true := by simp [e]
      have b : decide (q.1 ≠ k) = true := by simp [e']
      rw [if_pos a, if_pos b]; exact .cons ⟨h1, h2⟩ ih
theorem KV.keys {kvs : List (κ × V)} {vs : List (κ × Value)} (r : KV kvs vs) : kvs.map (·.1) = vs.map (·.1) := by
  unfold KV at r
  induction r with
  | nil => rfl
  | cons h t ih => rw [List.map_cons, List.map_cons, ih, h.1]
theorem KV.length {kvs : List (κ × V)} {vs : List (κ × Value)} (r : KV kvs vs) : kvs.length = vs.length := Paired.length r
end


theorem kV_is {P : Program} {w : World} {k : Key} {u : Value} (r : RelV (kV k) u) : (mixKind P w).is k u = true := by
  cases k with
  | inl i => obtain ⟨t, e⟩ := (show ∃ t, u = Value.int i t from r); subst e; exact mixKind_int P w i t
  | inr x => obtain ⟨t, e⟩ := (show ∃ t, u = Value.str x t from r); subst e; exact mixKind_str P w x t
theorem items_are {P : Program} {w : World} : ∀ {ks : List Key} {us : List Value}, Vals (ks.map kV) us → ItemsAre (mixKind P w) ks us
  | [], _, r => by rw [List.map_nil] at r; cases r; exact .nil
  | k :: ks, _, r => by
    rw [List.map_cons] at r
    cases r with
    | cons h t => exact .cons (kV_is h) (items_are t)

/-- raw entries of a dict with tuple keys -/
abbrev KT (H : Hp) : List (List Key × V) → List (List Key × Addr × Value) → Prop := Paired fun p q => p.1 = q.1 ∧ H q.2.1 = some (.tup (p.1.map kV)) ∧ RelV p.2 q.2.2
theorem KT.val {H : Hp} {kvs : List (List Key × V)} {xs : List (List Key × Addr × Value)} (r : KT H kvs xs) (k : List Key) : RelO (valV kvs k) ((atKey xs k).map (·.2)) := by
  induction r with
  | nil => exact True.intro
  | @cons p q ps qs h t ih =>
    obtain ⟨h1, _, h2⟩ := h
    by_cases e : p.1 = k
    · have e' : q.1 = k := h1.symm.trans e
      have b : atKey (q :: qs) k = some q.2 := by simp [atKey, List.find?_cons, e']
      rw [valV_pos e, b]; exact h2
    · have e' : ¬ q.1 = k := fun z => e (h1.trans z)
      have b : atKey (q :: qs) k = atKey qs k := by simp [atKey, List.find?_cons, e']
      rw [valV_neg e, b]; exact ih
theorem KT.keeps {H H' : Hp} {kvs : List (List Key × V)} {xs : List (List Key × Addr × Value)} (r : KT H kvs xs) (ht : ∀ b ys, H b = some (.tup ys) → H' b = some (.tup ys)) : KT H' kvs xs :=
  Paired.mapP r fun _ _ z => ⟨z.1, ht _ _ z.2.1, z.2.2⟩

section
variable {P : Program} {w : World} {H : Hp} {h : Heap} {a : Addr}
theorem rd_of {u : HO} (ok : HOk P w H h) (e : Rd H a u) : ObjOk P w H h a u := e.ok ok
theorem dk_rd {kvs : List (Key × V)} (ok : HOk P w H h) (e : Rd H a (.dK kvs)) : kvs.length ≤ sizeLine ∧ (a == sysModules) = false ∧ ∃ vs, KV kvs vs ∧ h.DictOf (mixKind P w) a vs :=
  show ObjOk P w H h a (.dK kvs) from rd_of ok e
/-- a tracked tuple of ints and texts is a key -/
theorem key_of {ks : List Key} (ok : HOk P w H h) (e : H a = some (.tup (ks.map kV))) : (tupleKind (mixKind P w)).is h ks a := by
  obtain ⟨_, its, r, o, h1, h2, n, h3⟩ := (show ObjOk P w H h a (.tup (ks.map kV)) from ok a _ e)
  exact ⟨o, its.toArray, n, h1, h2, h3, by simpa using items_are r⟩
theorem dt_rd {kvs : List (List Key × V)} (ok : HOk P w H h) (e : Rd H a (.dT kvs)) : kvs.length ≤ sizeLine ∧ (a == sysModules) = false ∧
    ∃ xs, KT H kvs xs ∧ h.DictOfH (tupleKind (mixKind P w)) a xs := by
  obtain ⟨z, y, xs, r, o, es, ep, h1, h2, h3, h4, h5⟩ := (show ObjOk P w H h a (.dT kvs) from rd_of ok e)
  refine ⟨z, y, xs, r, o, es, ep, h1, h2, h3, h4, fun x hx => ?_, h5⟩
  have all : ∀ {l : List (List Key × V)} {m : List (List Key × Addr × Value)}, KT H l m → ∀ x ∈ m, (tupleKind (mixKind P w)).is h x.1 x.2.1 := by
    intro l m q
    induction q with
    | nil => intro x hx; exact nomatch hx
    | @cons p q ps qs hq t ih =>
      intro x hx
      rcases List.mem_cons.mp hx with e | hx
      · subst e
        exact key_of ok (by rw [← hq.1]; exact hq.2.1)
      · exact ih x hx
  exact all r x hx
end

/-- what the dict at a holds at the key y -/
def DGet (H : Hp) (a : Addr) (y : V) (r : Option V) : Prop :=
  (∃ kvs k, Rd H a (.dK kvs) ∧ y = kV k ∧ r = valV kvs k) ∨ ∃ kvs k b, Rd H a (.dT kvs) ∧ y = .ref b ∧ H b = some (.tup (k.map kV)) ∧ r = valV kvs k
/-- the heap behind a[y] = v -/
def DPut (H : Hp) (a : Addr) (y v : V) (H' : Hp) : Prop :=
  (∃ kvs k, H a = some (.dK kvs) ∧ y = kV k ∧ kvs.length < sizeLine ∧ H' = upd H a (.dK (putK kvs k v))) ∨
  ∃ kvs k b, H a = some (.dT kvs) ∧ y = .ref b ∧ H b = some (.tup (k.map kV)) ∧ kvs.length < sizeLine ∧ H' = upd H a (.dT (putK kvs k v))
theorem DGet.k {H : Hp} {a : Addr} {kvs : List (Key × V)} {k : Key} (e : H a = some (.dK kvs)) : DGet H a (kV k) (valV kvs k) := .inl ⟨kvs, k, .inl e, rfl, rfl⟩
theorem DGet.t {H : Hp} {a b : Addr} {kvs : List (List Key × V)} {k : List Key} (e : H a = some (.dT kvs)) (eb : H b = some (.tup (k.map kV))) : DGet H a (.ref b) (valV kvs k) := .inr ⟨kvs, k, b, .inl e, rfl, eb, rfl⟩
theorem DPut.k {H : Hp} {a : Addr} {kvs : List (Key × V)} {k : Key} {v : V} (e : H a = some (.dK kvs)) (hl : kvs.length < sizeLine) : DPut H a (kV k) v (upd H a (.dK (putK kvs k v))) := .inl ⟨kvs, k, e, rfl, hl, rfl⟩
theorem DPut.t {H : Hp} {a b : Addr} {kvs : List (List Key × V)} {k : List Key} {v : V} (e : H a = some (.dT kvs)) (eb : H b = some (.tup (k.map kV))) (hl : kvs.length < sizeLine) :
    DPut H a (.ref b) v (upd H a (.dT (putK kvs k v))) := .inr ⟨kvs, k, b, e, rfl, eb, hl, rfl⟩


section
variable {X : Cx} {pins : List (Addr × Obj)} {σ : St} {H : Hp} {s : Shared} {a : Addr} {y v : V} {u r : Value} {o : Option V} {A : Around} {E : Value → Shared → Prop}

theorem Inv.big (I : Inv X pins σ H s) : sysModules < s.heap.objs.size := by
  have h : mainGlobals < s.heap.objs.size := (I.mod.glob.keeps I.bk).lt
  exact Nat.lt_trans (by decide) h

end

section
variable {X : Cx} {pins : List (Addr × Obj)} {σ : St} {H : Hp} {s : Shared} {a : Addr} {kvs : List (Key × V)} {k : Key} {u : Value} {A : Around} {E : Value → Shared → Prop}
end


theorem dict_typeIs {X : Cx} {pins : List (Addr × Obj)} {σ : St} {H : Hp} {s : Shared} {a : Addr} {y : V} {o : Option V} (I : Inv X pins σ H s) (g : DGet H a y o) : s.TypeIs (.ref a) "dict" := by
  rcases g with ⟨kvs, k, e, _, _⟩ | ⟨kvs, k, b, e, _, _, _⟩
  · obtain ⟨_, _, vs, _, dd⟩ := dk_rd I.hok e
    exact dd.typeIs
  · obtain ⟨_, _, xs, _, dd⟩ := dt_rd I.hok e
    exact dd.typeIs
/-- d[y] -/
def tDGet (td ty : TE) : TE := fun σ H Q => td σ H fun x H1 => ty σ H1 fun y H2 => ∃ a v, x = .ref a ∧ DGet H2 a y (some v) ∧ Q v H2
/-- y in d, y not in d -/
def tDIn (ty td : TE) : TE := fun σ H Q => ty σ H fun y H1 => td σ H1 fun x H2 => ∃ a o, x = .ref a ∧ DGet H2 a y o ∧ Q (.bl o.isSome) H2
/-- d[y] = v -/
def sDPut (td ty tv : TE) : TS := fun D σ H => tv σ H fun v H1 => td σ H1 fun x H2 => ty σ H2 fun y H3 => ∃ a H4, x = .ref a ∧ DPut H3 a y v H4 ∧ D.nx σ H4
section
variable {X : Cx} {o i e value : Expr} {pos pos' tpos : Pos} {td ty tv : TE}
end


theorem dk_empty {P : Program} {w : World} {H : Hp} (h : Heap) (hb : sysModules < h.objs.size) : ObjOk P w H (h.push { cls := .type "dict", data := .dict #[] }) h.objs.size (.dK []) :=
  ⟨Nat.zero_le _, beq_eq_false_iff_ne.mpr (Ne.symm (Nat.ne_of_lt hb)), [], .nil, Heap.DictOf.new h⟩
/-- {}, to be a dict of the kind that is wanted -/
def tDNewK : TE := fun _ H Q => ∀ p, H p = none → Q (.ref p) (upd H p (.dK []))
section
variable {X : Cx} {pos : Pos}
theorem pe_dnewK : PE X (.Dict [] [] pos) tDNewK := fun pins s σ H Q I h =>
  wpAny_Dict_empty ⟨.ref s.heap.objs.size, _, I.laid (a := s.heap.objs.size) (o := .dK []) (t' := s.toks) (fun _ _ q => Heap.get?_push_of_some _ q) (Nat.le_refl _) (dk_empty s.heap I.big), rfl, h _ (I.hok.fresh (Nat.le_refl _))⟩
end

/-- the pairs of a display, from the left -/
def tPairs : List (TE × TE) → St → Hp → (List (V × V) → Hp → Prop) → Prop
  | [], _, H, Q => Q [] H
  | (tk, tv) :: r, σ, H, Q => tk σ H fun x H1 => tv σ H1 fun y H2 => tPairs r σ H2 fun ps H3 => Q ((x, y) :: ps) H3
def mergeK (kvs more : List (Key × V)) : List (Key × V) := more.foldl (fun acc kv => putK acc kv.1 kv.2) kvs
/-- {k: v, ..} with keys ints and texts; the new dict stands empty while the pairs are made -/
def tDisp (trs : List (TE × TE)) : TE := fun σ H Q => ∀ p, H p = none → tPairs trs σ (upd H p (.dK [])) fun ps H2 => H2 p = some (.dK []) ∧ ∃ kvs : List (Key × V), ps = kvs.map (fun kv => (kV kv.1, kv.2)) ∧ kvs.length ≤ 15 ∧ Q (.ref p) (upd H2 p (.dK (mergeK [] kvs)))
/-- a method call o.m(e) of a built-in, with one argument: what must be seen of the text -/
structure M1 (X : Cx) (o : Expr) (m : Str) (apos : Pos) (e : Expr) (cpos : Pos) : Prop where
  base : attributeBase o m X.env (eval o X.env) = eval o X.env
  few : ((backTo cpos (starEach [e] X.env)).all (fun x => !x.1) && (backToKw cpos (keywordEach [] X.env)).all (fun x => x.1.isSome)
    && decide (([e] : List Expr).length + ([] : List Keyword).length + (if ([] : List Keyword).isEmpty then 0 else 1) < 30)) = true
  line : (apos.endLine == cpos.line) = true
  trees : backTo cpos (starEach [e] X.env) = [(false, eval e X.env)]
structure M2 (X : Cx) (o : Expr) (m : Str) (apos : Pos) (e f : Expr) (cpos : Pos) : Prop where
  base : attributeBase o m X.env (eval o X.env) = eval o X.env
  few : ((backTo cpos (starEach [e, f] X.env)).all (fun x => !x.1) && (backToKw cpos (keywordEach [] X.env)).all (fun x => x.1.isSome)
    && decide (([e, f] : List Expr).length + ([] : List Keyword).length + (if ([] : List Keyword).isEmpty then 0 else 1) < 30)) = true
  line : (apos.endLine == cpos.line) = true
  trees : backTo cpos (starEach [e, f] X.env) = [(false, eval e X.env), (false, eval f X.env)]

section
variable {X : Cx} {pins : List (Addr × Obj)} {σ : St} {H : Hp} {s : Shared} {a : Addr} {y d : V} {u r : Value} {o : Option V} {A : Around} {E : Value → Shared → Prop}
end

section
variable {X : Cx} {o e f : Expr} {apos cpos : Pos} {td ty tx : TE}
end

section
variable {X : Cx} {pins : List (Addr × Obj)} {σ : St} {H : Hp} {s : Shared} {a : Addr} {kvs : List (Key × V)} {A : Around} {E : Value → Shared → Prop}
end


section
variable {X : Cx} {pins : List (Addr × Obj)} {σ : St} {H : Hp} {s : Shared} {a : Addr} {y : V} {u : Value} {A : Around} {E : Value → Shared → Prop}
end
end L2

namespace Att
open PySem PySem.W PySem.Calls PyProof.Rows

theorem ints_of_wellAll {P : Params} {h : Heap} : ∀ (ns : List Int) (vs : List Value), WellAll P h vs (ns.map WData.int) → IntsAre vs ns := by
  intro ns
  induction ns with
  | nil =>
    intro vs w
    rw [List.map_nil] at w
    cases w
    exact .nil
  | cons n ns ih =>
    intro vs w
    rw [List.map_cons] at w
    cases w with
    | cons a b =>
      cases a
      exact .cons _ _ (ih _ b)

theorem script_of {l : OpenLaw} {n : Nat} (hn : l.most = some n) {P : Params} {h : Heap} {args : List WData} {vals : List Value}
    (hpre : l.row.toRowW.claim.pre args = true) (hwl : WellAll P h vals args) :
    ∃ a vs ns, vals = [Value.ref a] ∧ args = [WData.list (ns.map WData.int)] ∧ h.get? a = some { cls := .type "list", data := .seq vs.toArray } ∧ IntsAre vs ns ∧ ns.length ≤ n := by
  have hsh : WShape.hasAll [] args [.list .int] = true := (pre_splitW hpre).1
  have hc : l.pre.holds [] { args := args } = true := (pre_splitW hpre).2
  obtain ⟨d, r, rfl, h1, h2⟩ := hasAllW_cons hsh
  obtain rfl := hasAllW_nil h2
  obtain ⟨xs, rfl, h3⟩ := hasW_list h1
  obtain ⟨ns, rfl⟩ := items_int h3
  have hlen : ns.length ≤ n := by
    unfold OpenLaw.pre at hc
    have h4 : (WTm.not (.lt (.lit (.int (n : Int))) (.len (.arg 0)))).holds [] { args := [.list (ns.map .int)] } = true := by
      have h4 := (holds_andW hc).1
      rw [hn] at h4
      exact h4
    have h5 := condW_of h4 (w_not (w_lt w_lit (w_len_list (w_arg rfl))))
    rw [List.length_map] at h5
    refine Nat.le_of_not_lt fun q => ?_
    have q' : (n : Int) < ((ns.length : Nat) : Int) := by omega
    first
      | (rw [decide_eq_true q'] at h5; exact absurd h5 (by decide))
      | (simp at h5; omega)
  cases hwl with
  | cons w1 w2 =>
    cases w2
    cases w1 with
    | list ho hall => exact ⟨_, _, ns, rfl, rfl, ho, ints_of_wellAll ns _ hall, hlen⟩

theorem post_true (l : OpenLaw) (args : List WData) : l.row.toRowW.claim.post args (.bool true) args = true :=
  postW_of (r := l.row.toRowW) (X := (true == true))
    (show WShape.has [] (.bool true) .bool = true by first | rfl | decide | simp [WShape.has, WShape.arms, WShape.armsAll])
    (show (WTm.eq .res (.lit (.bool true))).value [] { args := args, res := some (.bool true), after := args } = some (.bool (true == true)) from w_eq_bool (w_res rfl) w_lit) rfl

/-- the same from a codeAny of the CALL (for a layer whose function contracts speak of calls) -/
theorem attach_call {l : OpenLaw} {n : Nat} {q : Program} {loose : List Str} {XP : (Str → Option Value) → Heap → Prop} {YP : World → Heap → Prop} {d : DefRec}
    (hn : l.most = some n) (hdf : d.params.defaults = [])
    (call : ∀ (w : World) (s₀ s₁ : Shared) (mg mb : Str → Option Value) (fa : Addr) (o : Obj) (pm cd doc : Value) (a : Addr) (vs : List Value) (ns : List Int),
      Ground q loose [] XP w s₀ mg mb s₁.heap → YP w s₁.heap →
      s₁.heap.get? fa = some o → o.data = .func (docDef d.name d.params d.body d.scope pm cd doc) → s₁.heap.CodeRec cd d.name → mg d.name = some (.ref fa) →
      s₁.heap.get? a = some { cls := .type "list", data := .seq vs.toArray } → IntsAre vs ns → ns.length ≤ n → s₁.gens = #[] →
      codeAny (model l.prog w) callerA (.call (.ref fa) ⟨[.ref a], []⟩) (fun r s' => r = .ok (.ret (.bool true)) ∧ OldK s₁.heap s'.heap ∧ s'.os = s₁.os ∧ AllBare s'.gens) s₁) :
    WalkO q loose XP YP l.row.toRowW d [] (fun f vs => PySem.call f vs) := by
  intro w s₀ s₁ mg mb G Y fa o pm cd doc dV kV ho hd hcd hD hmg hg args vals as hpre hlay hrd hwl hlo
  obtain rfl : dV = .none := Dflts.none hD hdf
  obtain rfl : kV = .none := Dflts.noKw hD
  obtain ⟨a, vs, ns, rfl, rfl, hobj, hints, hlen⟩ := script_of hn hpre hwl
  refine enter_call (codeAny_mono (call w s₀ s₁ mg mb fa o pm cd doc a vs ns G Y ho (fd_plain hd) hcd hmg hobj hints hlen hg) fun r s' hq => ?_)
  obtain ⟨rfl, h2, h3, h4⟩ := hq
  exact ⟨.inl ⟨.bool true, .bool true, [], rfl, fun _ => rfl, .bool true, post_true l _, fun _ => ⟨List.Pairwise.nil, fun _ hm => (nomatch hm)⟩⟩, h2, h3, h4⟩

section
variable {prog : Program} {w : World} {A : Around} {E : Value → Shared → Prop} {s : Shared} {K : Frag}

end
end Att

namespace L2
open PySem PySem.Spec PyProof.Rows

theorem vals_ints : ∀ {vs : List Value} {ns : List Int}, IntsAre vs ns → Vals (ns.map V.int) vs
  | _, _, .nil => .nil
  | _, _, .cons n t h => .cons ⟨t, rfl⟩ (vals_ints h)

/-- nothing is tracked but the script, known to the object (or it is an object of the module) -/
def Only (H : Hp) : Prop := ∀ b, H b = none ∨ ∃ o xs, H b = some (.frz o (.lst xs))

/-- THE HEAD: the law's promise, at the heap behind the top. F, the promise of the law's def, may use that base is part of the heap (so K.In base, base.Ns mainGlobals mg stand in Mod) -/
theorem law_call {P : Program} {w : World} {K : PySem.W.Frag} {mg mb : Str → Option Value} {CX : CXT} {k : Nat} {fa a : Addr} {fd : FuncData} {x : Str} {sp : Sp} {s₁ : Shared} {vs : List Value} {ns : List Int}
    (KX : K.In s₁.heap) (hns : s₁.heap.Ns mainGlobals mg) (hb : s₁.heap.Ns builtinsNs mb) (hbb : ∀ x : Str, x ≠ "__name__" → mb x = bootBuiltins x) (hlim : s₁.heap.NoLimit) (hg : s₁.gens = #[])
    (ha : s₁.heap.get? a = some { cls := .type "list", data := .seq vs.toArray }) (hi : IntsAre vs ns) (hl : ns.length ≤ sizeLine) (hr : Room k callerA)
    (F : ∀ base : Heap, K.In base → base.Ns mainGlobals mg → FnOk P w K mg base CX k fa fd [x] sp) (hbind : ∀ (s : Shared) (u : Value), BindsTo s fd ⟨[u], []⟩ [(x, u)])
    (hsp : ∀ H : Hp, Only H → SqL K H a (ns.map V.int) → sp [.ref a] H (fun v _ => v = .bl true) fun _ _ _ => False)
    (hCX : ∀ H e s', CX [] H s₁ (fun _ _ _ => False) e s' → False) :
    codeAny (model P w) callerA (.call (.ref fa) ⟨[.ref a], []⟩) (fun r s' => r = .ok (.ret (.bool true)) ∧ OldK s₁.heap s'.heap ∧ s'.os = s₁.os ∧ AllBare s'.gens) s₁ := by
  have rv := vals_ints hi
  have lenV := hi.length
  -- from an abstract heap in which nothing but the script may be tracked
  have core : ∀ H : Hp, Only H → SqL K H a (ns.map V.int) → HOk P w H s₁.heap → (∀ b, H b ≠ none → b = a) → (H a ≠ none → K.lookup a = none) →
      codeAny (model P w) callerA (.call (.ref fa) ⟨[.ref a], []⟩) (fun r s' => r = .ok (.ret (.bool true)) ∧ OldK s₁.heap s'.heap ∧ s'.os = s₁.os ∧ AllBare s'.gens) s₁ := by
    intro H hO hS hok hA hK
    have base_of : ∀ {b : Addr} {o : Obj}, s₁.heap.get? b = some o → H b = none → (hidT s₁.heap H).get? b = some o := fun e n => hidT_get e n
    have noA : ∀ {b : Addr} {o : Obj} {es : Array DictEntry} {ep : Nat}, s₁.heap.get? b = some o → o.data = .dict es ep → H b = none := fun {b o es ep} e d => by
      cases q : H b with
      | none => rfl
      | some u =>
        have e' : b = a := hA b (by rw [q]; simp)
        subst e'
        rw [ha] at e; cases e
        have d' : Data.seq vs.toArray _ = Data.dict es ep := d
        cases d'
    have nsK : ∀ {b : Addr} {m : Str → Option Value}, s₁.heap.Ns b m → (hidT s₁.heap H).Ns b m := fun {b m} ⟨o, es, ep, e, d, r⟩ => ⟨o, es, ep, base_of e (noA e d), d, r⟩
    have hKb : K.In (hidT s₁.heap H) := fun b o e => base_of (KX b o e) (by
      cases q : H b with
      | none => rfl
      | some u =>
        have e' : b = a := hA b (by rw [q]; simp)
        subst e'
        rw [hK (by rw [q]; simp)] at e; cases e)
    have hM : Mod K mg (hidT s₁.heap H) := ⟨hKb, nsK hns, ⟨mb, nsK hb, hbb⟩, let ⟨mc, h1, h2⟩ := hlim; ⟨mc, nsK h1, h2⟩⟩
    have e0 : Env0 P w K mg (hidT s₁.heap H) callerA [] s₁ H := ⟨rfl, hM, fun b o e => of_hidT e, Nat.le_of_eq (hidT_size _ _), trivial, fun b hb => absurd (show b ∈ ([] : List Addr) from hb) (by simp), hok, .of_eq hg⟩
    refine codeAny_mono ((F _ hKb (nsK hns)).run callerA [] s₁ H ⟨[.ref a], []⟩ [.ref a] [.ref a] _ _ hr e0 (hbind s₁ (.ref a)) (.cons rfl .nil) (hsp H hO hS)) fun r s' h => ?_
    cases r with
    | error e => exact (hCX H e s' h).elim
    | ok fl =>
      cases fl with
      | next => exact False.elim h
      | brk => exact False.elim h
      | cont => exact False.elim h
      | ret u =>
        obtain ⟨v, H', os, bare, un, hok', r', q⟩ := h
        have q' : v = .bl true := q
        subst q'
        obtain rfl : u = Value.bool true := r'
        refine ⟨rfl, OldK.of_keep fun b o e => ?_, os, bare⟩
        cases q : H b with
        | none => exact un.keep b o e q (by intro z; exact absurd (show b ∈ ([] : List Addr) from z) (by simp)) (by simp)
        | some u =>
          rcases hO b with z | ⟨ob, xs, z⟩
          · rw [q] at z; cases z
          · have z2 := un.frzs b ob _ z
            obtain ⟨e1, _⟩ := hok b _ z
            obtain ⟨e2, _⟩ := hok' b _ z2
            rw [e] at e1; cases e1
            exact e2
  cases hk : K.lookup a with
  | some o =>
    -- the script is one of the module's own objects
    have e := KX a o hk
    rw [ha] at e
    cases e
    refine core (fun _ => none) (fun _ => .inl rfl) (.inr ⟨_, vs.toArray, _, hk, rfl, rfl, rfl, by rw [List.size_toArray, lenV]; exact hl, by simpa using rv⟩) (fun b u z => by have z' : (none : Option HO) = some u := z; cases z') (fun b z => absurd rfl z) fun z => absurd rfl z
  | none =>
    refine core (fun b => if b = a then some (.frz { cls := .type "list", data := .seq vs.toArray } (.lst (ns.map V.int))) else none) (fun b => ?_) (.inl (.inr ⟨{ cls := .type "list", data := .seq vs.toArray }, if_pos rfl⟩)) (fun b u z => ?_) (fun b z => ?_) fun _ => hk
    · by_cases hb : b = a
      · exact .inr ⟨_, _, if_pos hb⟩
      · exact .inl (if_neg hb)
    · by_cases hb : b = a
      · have z' := (if_pos hb).symm.trans z
        cases z'
        subst hb
        exact ⟨ha, by rw [List.length_map]; exact hl, vs, _, rv, ha⟩
      · have z' := (if_neg hb).symm.trans z
        cases z'
    · by_cases hb : b = a
      · exact hb
      · exact absurd (if_neg hb) z
end L2

namespace L2
open PySem PySem.Spec PyProof.Rows

/-- the goal that k_head leaves (case hc), from the law's promise. F gives the function object fd (K's own) once, then the promise over every base -/
theorem walk_of {l : PySem.W.OpenLaw} {n k : Nat} {q : Program} {loose : List Str} {XP : (Str → Option Value) → Heap → Prop} {YP : World → Heap → Prop} {d : DefRec} {K : Params → PySem.W.Frag} {CX : World → CXT} {sp : World → Sp} {x : Str}
    (hn : l.most = some n) (hn2 : n ≤ sizeLine) (hdf : d.params.defaults = []) (hr : Room k callerA)
    (hY : ∀ (w : World) (h : Heap), YP w h → (K w.params).In h)
    (F : ∀ (w : World) (mg : Str → Option Value) (fa : Addr) (h : Heap), (K w.params).In h → h.Ns mainGlobals mg → mg d.name = some (.ref fa) →
      ∃ fd : FuncData, (∀ (s : Shared) (u : Value), BindsTo s fd ⟨[u], []⟩ [(x, u)]) ∧
        ∀ base : Heap, (K w.params).In base → base.Ns mainGlobals mg → FnOk l.prog w (K w.params) mg base (CX w) k fa fd [x] (sp w))
    (hsp : ∀ (w : World) (H : Hp) (a : Addr) (ns : List Int), ns.length ≤ n → Only H → SqL (K w.params) H a (ns.map V.int) → sp w [.ref a] H (fun v _ => v = .bl true) fun _ _ _ => False)
    (hCX : ∀ (w : World) (H : Hp) (s : Shared) (e : Value) (s' : Shared), CX w [] H s (fun _ _ _ => False) e s' → False) :
    PySem.W.WalkO q loose XP YP l.row.toRowW d [] (fun f vs => PySem.call f vs) := by
  refine Att.attach_call hn hdf fun w s₀ s₁ mg mb fa o pm cd doc a vs ns G Y ho hd hcd hmg hobj hints hlen hg => ?_
  have KX := hY w _ Y
  obtain ⟨fd, hb, hF⟩ := F w mg fa _ KX G.T.g hmg
  exact law_call KX G.T.g G.T.b G.T.builtins G.T.nolimit hg hobj hints (Nat.le_trans hlen hn2) hr hF hb (fun H hO hS => hsp w H a ns hlen hO hS) fun H e s' => hCX w H s₁ e s'
end L2


namespace L2
open PySem PySem.Spec PyProof.Rows

def defArgs (s : Stmt) : Arguments := match s with
  | .FunctionDef _ a _ _ _ _ _ _ _ _ => a
  | _ => { posonlyargs := [], args := [], vararg := none, kwonlyargs := [], kw_defaults := [], kwarg := none, defaults := [] }
def defBody (s : Stmt) : List Stmt := match s with
  | .FunctionDef _ _ b _ _ _ _ _ _ _ => b
  | _ => []
def defScope (s : Stmt) : Scope := match s with
  | .FunctionDef _ _ _ _ _ _ sc _ _ _ => sc
  | _ => { kind := .function, names := [], isGenerator := false, isCoroutine := false }

abbrev CX0 : CXT := fun _ _ _ _ _ _ => False
abbrev E0 : XK := fun _ _ _ => False
theorem pass0 {X : Cx} : Passes CX0 X E0 := fun _ _ _ _ _ _ _ h => h.elim

structure Fun (K : PySem.W.Frag) (x qual : Str) (st : Stmt) (f : Addr) (fd : FuncData) : Prop where
  ex : ∃ (oc : Value) (od : Option Addr) (kV doc pm : Value) (an : Option Addr) (cdv ct : Value) (osl : Array (Option Value)),
    fd = PySem.W.fnOf x qual (defArgs st) (defBody st) (defScope st) .none kV doc pm an cdv ct ∧ K.lookup f = some ⟨oc, od, .func fd, osl⟩ ∧ PySem.W.codeIn K cdv qual = true
  kp : PySem.W.keepIn K (.ref f) = true
section
variable {P : Program} {w : World} {K : PySem.W.Frag} {mg : Str → Option Value} {base : Heap}
/-- THE RULE for a def: its body as a term of rules, and the reading of that term -/
theorem Fun.ok {x qual : Str} {st : Stmt} {f : Addr} {fd : FuncData} {N ps : List Str} {k : Nat} {sp : Sp} (F : Fun K x qual st f fd) (S : FnScope N ps (defScope st)) (len : ∀ vs H Q E, sp vs H Q E → vs.length = ps.length)
    (hbody : ∀ (cdv : Value) (A : Around) (outer : List Env) (s : Shared) (H : Hp) (vs : List V) (Q : VK) (E : XK), Room k (A.deeper (envOfC qual (defScope st) s.heap.objs.size f cdv)) → sp vs H Q E →
      ∃ t, PSs (cxOf CX0 P w K mg base N qual (defScope st) f cdv A outer s H E).nox (defBody st) t ∧ t { nx := fun _ H' => Q .non H', rt := Q } (start N vs) H) : FnOk P w K mg base CX0 (k + 1) f fd ps sp := by
  obtain ⟨oc, od, kV, doc, pm, an, cdv, ct, osl, rfl, lk, hcd⟩ := F.ex
  refine fn_of lk hcd S len fun A outer s H vs Q E hr hsp => ?_
  obtain ⟨t, h, q⟩ := hbody cdv A outer s H vs Q E hr hsp
  exact ⟨t, h.nox, q⟩
/-- how its arguments bind (no defaults): h is «fun _ _ _ _ _ _ us hl => match us, hl with | [_, _], _ => rfl», one _ a parameter -/
theorem Fun.binds {x qual : Str} {st : Stmt} {f : Addr} {fd : FuncData} {ps : List Str} (F : Fun K x qual st f fd)
    (h : ∀ (kV doc pm : Value) (an : Option Addr) (cdv ct : Value) (us : List Value), us.length = ps.length → bindArgs (PySem.W.fnOf x qual (defArgs st) (defBody st) (defScope st) .none kV doc pm an cdv ct) ⟨us, []⟩ = pure (ps.zip us)) : Binds K fd ps [] := by
  obtain ⟨oc, od, kV, doc, pm, an, cdv, ct, osl, rfl, lk, hcd⟩ := F.ex
  exact .all (h kV doc pm an cdv ct)
theorem fun_mk {x qual : Str} {st : Stmt} {f : Addr} {oc : Value} {od an : Option Addr} {osl : Array (Option Value)} {kV doc pm cdv ct : Value} (l : K.lookup f = some ⟨oc, od, .func (PySem.W.fnOf x qual (defArgs st) (defBody st) (defScope st) .none kV doc pm an cdv ct), osl⟩)
    (c : PySem.W.codeIn K cdv qual = true) (k : PySem.W.keepIn K (.ref f) = true) : Fun K x qual st f (PySem.W.fnOf x qual (defArgs st) (defBody st) (defScope st) .none kV doc pm an cdv ct) := ⟨⟨oc, od, kV, doc, pm, an, cdv, ct, osl, rfl, l, c⟩, k⟩
end
section
variable {X : Cx}
theorem pv (i : Nat) {x : Str} {pos : Pos} (hN : X.N[i]? = some x := by rfl) (hv : Vis X.env.scope x := by first | exact Or.inl rfl | exact Or.inr (Or.inl rfl) | exact Or.inr (Or.inr rfl)) (hd : (x == ("__debug__" : Str)) = false := by decide)
    (hcd : (x == ("__classdict__" : Str)) = false := by decide) : PE X (.Name x pos) (tVar i) := pe_var hN hv hd hcd
end

/-- all that was tracked is as it was -/
def Same (H H' : Hp) : Prop := ∀ b o, H b = some o → H' b = some o
theorem Same.refl (H : Hp) : Same H H := fun _ _ h => h
theorem Same.trans {H H1 H2 : Hp} (a : Same H H1) (b : Same H1 H2) : Same H H2 := fun c o h => b c o (a c o h)
theorem Same.free {H H' : Hp} (e : Same H H') {l : Addr} (h : H' l = Option.none) : H l = Option.none := by
  cases q : H l with
  | none => rfl
  | some o =>
    rw [e l o q] at h
    cases h
theorem Same.seq {K : PySem.W.Frag} {H H' : Hp} {a : Addr} {xs : List V} (e : Same H H') (h : SqL K H a xs) : SqL K H' a xs := by
  rcases h with (h | ⟨o, h⟩) | h
  · exact .inl (.inl (e _ _ h))
  · exact .inl (.inr ⟨o, e _ _ h⟩)
  · exact .inr h

end L2


namespace L2
open PySem PySem.Spec PyProof.Rows
section
variable {X : Cx}
end
section
variable {κ : Type} [DecidableEq κ]
end
end L2


set_option maxHeartbeats 1000000
namespace Wa
open PySem PySem.Builtin PySem.Builtin.Str

abbrev Tab := List (List Bool)
def sgn (b : Bool) : Nat := if b then 120 else 45
def rowS (r : List Bool) : PySem.Str := ⟨(r.map sgn).toArray⟩
def oneS (b : Bool) : PySem.Str := ⟨#[sgn b]⟩
def Wid (t : Tab) (w : Nat) : Prop := ∀ r ∈ t, r.length = w
def turnT (t : Tab) (w : Nat) : Tab := (List.range w).map fun j => t.map fun r => r.getD j false
def widT (t : Tab) : Nat := (t.headD []).length

theorem rowS_len (r : List Bool) : (rowS r).length = r.length := by simp [rowS, Str.length]
theorem rowS_list (r : List Bool) : (rowS r).cps.toList = r.map sgn := by simp [rowS]
theorem rowS_count (r : List Bool) : (r.map sgn).count 120 + (r.map sgn).count 45 = r.length := by
  induction r with
  | nil => rfl
  | cons b r ih =>
    rw [List.map_cons, List.count_cons, List.count_cons, List.length_cons]
    cases b
    · rw [if_neg (by decide), if_pos (by decide)]; omega
    · rw [if_pos (by decide), if_neg (by decide)]; omega
theorem x_is : (PySem.Str.ofString "x") = ⟨#[120]⟩ := by decide +kernel
theorem m_is : (PySem.Str.ofString "-") = ⟨#[45]⟩ := by decide +kernel
theorem e_is : (PySem.Str.ofString "") = ⟨#[]⟩ := by decide +kernel
theorem turnT_len (t : Tab) (w : Nat) : (turnT t w).length = w := by simp [turnT]
theorem turnT_wid (t : Tab) (w : Nat) : Wid (turnT t w) t.length := by
  intro r hr
  obtain ⟨j, _, rfl⟩ := List.mem_map.mp hr
  simp
/-- "".join of single signs -/
theorem glue_fold (bs : List Bool) : ∀ acc : Array Nat, (bs.map oneS).foldl (fun (acc : Array Nat) (p : PySem.Str) => acc ++ (⟨#[]⟩ : PySem.Str).cps ++ p.cps) acc = acc ++ (bs.map sgn).toArray := by
  induction bs with
  | nil => intro acc; simp
  | cons b bs ih =>
    intro acc
    rw [List.map_cons, List.foldl_cons, ih]
    simp [oneS]
theorem glued_ones (bs : List Bool) : glued ⟨#[]⟩ (bs.map oneS) = rowS bs := by
  unfold glued
  cases bs with
  | nil => rfl
  | cons b bs =>
    simp only [List.map_cons, List.drop_succ_cons, List.drop_zero, List.headD_cons]
    rw [glue_fold]
    simp [oneS, rowS]
end Wa
open PySem PySem.Builtin PySem.Builtin.Str
namespace Wa
/-- one turn of the search for a sign -/
def occStep (s : PySem.Str) (c limit : Nat) (r : Array Nat × Nat) (i : Nat) : Array Nat × Nat :=
  if (decide (r.1.size < limit) && decide (r.2 ≤ i) && decide (i + 1 ≤ s.length) && subAt s ⟨#[c]⟩ i) = true then (r.1.push i, i + 1) else r
theorem forIn_fold {β : Type} (f : Nat → β → β) : ∀ (l : List Nat) (b : β), (forIn (m := Id) l b fun i r => pure (ForInStep.yield (f i r))) = pure (l.foldl (fun r i => f i r) b)
  | [], _ => rfl
  | i :: l, b => by
    rw [List.forIn_cons]
    exact forIn_fold f l (f i b)
theorem occ_fold (s : PySem.Str) (c limit : Nat) : occurrences s ⟨#[c]⟩ 0 s.length limit = ((List.range (s.length + 1)).foldl (occStep s c limit) (#[], 0)).1.toList := by
  unfold occurrences
  simp only [Std.Legacy.Range.forIn_eq_forIn_range', Std.Legacy.Range.size]
  have e : (s.length + 1 - 0 + 1 - 1) / 1 = s.length + 1 := by simp
  rw [e, ← List.range_eq_range']
  have h := forIn_fold (fun i r => occStep s c limit r i) (List.range (s.length + 1)) ((#[], 0) : Array Nat × Nat)
  have e2 : (fun i (r : Array Nat × Nat) => (pure (ForInStep.yield (occStep s c limit r i)) : Id (ForInStep (Array Nat × Nat)))) = fun i __s =>
              if (decide (__s.fst.size < limit) && decide (__s.snd ≤ i) && decide (i + ({ cps := #[c] } : PySem.Str).length ≤ s.length) && subAt s { cps := #[c] } i) = true then
                pure (ForInStep.yield (__s.fst.push i, i + ({ cps := #[c] } : PySem.Str).length))
              else pure (ForInStep.yield (__s.fst, __s.snd)) := by
    funext i r
    have l1 : ({ cps := #[c] } : PySem.Str).length = 1 := rfl
    unfold occStep
    rw [l1]
    split <;> rfl
  rw [← e2, h]
  rfl
theorem subAt_one (s : PySem.Str) (c i : Nat) (h : i < s.length) : subAt s ⟨#[c]⟩ i = (s.cps.toList[i]? == some c) := by
  have hl : i < s.cps.size := h
  have e : s.cps.extract i (i + 1) = #[s.cps[i]] := by
    apply Array.ext
    · simp; omega
    · intro j h1 h2
      have : j = 0 := by simp at h2; omega
      subst this
      simp
  show (s.cps.extract i (i + 1) == #[c]) = _
  rw [e]
  have e3 : s.cps.toList[i]? = some s.cps[i] := by simp [hl]
  rw [e3]
  by_cases hc : s.cps[i] = c
  · simp [hc]
  · simp [hc]
/-- str.count of one sign -/
theorem occ_one (s : PySem.Str) (c : Nat) : (occurrences s ⟨#[c]⟩ 0 s.length (s.length + 1)).length = s.cps.toList.count c := by
  rw [occ_fold]
  have sub : ∀ i, i < s.length → subAt s ⟨#[c]⟩ i = (s.cps.toList[i]? == some c) := fun i h => subAt_one s c i h
  have hl : s.cps.toList.length = s.length := by simp [Str.length]
  generalize s.cps.toList = l at sub hl
  have key : ∀ k, k ≤ s.length → ((List.range k).foldl (occStep s c (s.length + 1)) (#[], 0)).1.size = (l.take k).count c ∧ ((List.range k).foldl (occStep s c (s.length + 1)) (#[], 0)).2 ≤ k := by
    intro k
    induction k with
    | zero => intro _; exact ⟨by simp, Nat.le_refl _⟩
    | succ k ih =>
      intro hk
      obtain ⟨h1, h2⟩ := ih (by omega)
      rw [List.range_succ, List.foldl_append]
      simp only [List.foldl_cons, List.foldl_nil]
      generalize (List.range k).foldl (occStep s c (s.length + 1)) (#[], 0) = r at h1 h2
      have hk' : k < l.length := by omega
      have le : (l.take k).count c ≤ k := Nat.le_trans List.count_le_length (by rw [List.length_take]; omega)
      have eg : l[k]? = some l[k] := List.getElem?_eq_getElem hk'
      rw [List.take_add_one, eg, Option.toList_some, List.count_append]
      unfold occStep
      rw [sub k (by omega), eg]
      by_cases hc : l[k] = c
      · have e1 : (some l[k] == some c) = true := by rw [hc]; exact beq_self_eq_true _
        have e2 : [l[k]].count c = 1 := by rw [hc]; simp
        rw [e1, e2, if_pos (by simp only [Bool.and_true, Bool.and_eq_true, decide_eq_true_eq]; omega)]
        simp only [Array.size_push]
        omega
      · have e1 : (some l[k] == some c) = false := beq_eq_false_iff_ne.mpr fun z => hc (Option.some.inj z)
        have e2 : [l[k]].count c = 0 := List.count_eq_zero.mpr fun z => hc (List.mem_singleton.mp z).symm
        rw [e1, e2, if_neg (by rw [Bool.and_false]; exact Bool.false_ne_true)]
        omega
  have last := key s.length (Nat.le_refl _)
  rw [List.range_succ, List.foldl_append]
  simp only [List.foldl_cons, List.foldl_nil]
  generalize (List.range s.length).foldl (occStep s c (s.length + 1)) (#[], 0) = r at last
  unfold occStep
  have e0 : decide (s.length + 1 ≤ s.length) = false := decide_eq_false (by omega)
  rw [e0, if_neg (by rw [Bool.and_false, Bool.false_and]; exact Bool.false_ne_true)]
  rw [← hl, List.take_length] at last
  simpa using last.1
end Wa
namespace Wa
open PySem

def Rise (xs : Array Nat) : Prop := ∀ i k, i < k → k < xs.size → xs.getD i 0 < xs.getD k 0
end Wa
namespace Wa
open PySem PySem.Spec PyProof.Rows

def keyOf (e : Int × Value) : Int := match e.2 with
  | .int k _ => k
  | _ => 0
structure SetGood (prog : Program) (w : World) (es : Array (Int × Value)) (t : SetTable) (ns : List Int) : Prop where
  el : ElemsOf (intKind prog w) es.toList
  perm : (es.toList.map keyOf).Perm ns
  fits : t.fits es.size = true
  rise : Rise t.place
  led : t.led = !w.params.followText "set-order"
def SetObj (prog : Program) (w : World) (o : Obj) (ns : List Int) : Prop := o.ExactSet ∧ ∃ es ep t, o.data = .set es ep t ∧ SetGood prog w es t ns
def SetAt (prog : Program) (w : World) (h : Heap) (a : Addr) (ns : List Int) : Prop := ns.Nodup ∧ ns.length < scanBound ∧ ∃ o, h.get? a = some o ∧ SetObj prog w o ns

theorem SetGood.size {prog : Program} {w : World} {es : Array (Int × Value)} {t : SetTable} {ns : List Int} (g : SetGood prog w es t ns) : es.size = ns.length := by
  have := g.perm.length_eq
  simpa using this
section
variable {prog : Program} {w : World} {A : Around} {E : Value → Shared → Prop} {s : Shared} {a : Addr}

theorem SetGood.store {h : Heap} {o : Obj} {es es' : Array (Int × Value)} {ep : Nat} {t t' : SetTable} {ns : List Int} (ho : h.get? a = some o) (hex : o.ExactSet) (hd : o.data = .set es ep t) (g : SetGood prog w es' t' ns) (nd : ns.Nodup) (lt : ns.length < scanBound) :
    (h.update a (Obj.putSet es' t')).get? a = some { o with data := .set es' (ep + 1) t' } ∧ SetAt prog w (h.update a (Obj.putSet es' t')) a ns := by
  have hg : (h.update a (Obj.putSet es' t')).get? a = some { o with data := .set es' (ep + 1) t' } := by
    have q := Heap.get?_update_self (Obj.putSet es' t') ho (by rw [putSet_of es' t' hd]; rfl)
    rw [putSet_of es' t' hd] at q
    exact q
  exact ⟨hg, nd, lt, _, hg, hex, es', ep + 1, t', rfl, g⟩

end
end Wa
namespace Wa
open PySem PySem.Spec PyProof.Rows
section
variable {prog : Program} {w : World}

abbrev freshSet (w : World) : Obj := { cls := .type "set", dict := none, data := .set #[] 0 (.fresh 0 0 (!w.params.followText "set-order")) }
variable {A : Around} {E : Value → Shared → Prop} {s : Shared}
end
end Wa
namespace Wa
open PySem PySem.Spec PyProof.Rows
namespace SF
end SF
end Wa
namespace Wa
open PySem PySem.Spec PyProof.Rows
section
variable {prog : Program} {w : World} {A : Around} {E : Value → Shared → Prop} {s : Shared}

/-- a set's iterator walks some order of its ints -/
structure SetWalk (prog : Program) (w : World) (A : Around) (D I : Addr) (fp : List Addr) (ns : List Int) (St : Nat → Heap → Prop) : Prop where
  ord : ∃ ms : List Int, ms.Perm ns ∧ Walks prog w A I fp [I] ms.length (fun i v => ∃ t, v = .int (ms.getD i 0) t) St
end
end Wa
namespace Wa
open PySem PySem.Spec PyProof.Rows
section
variable {prog : Program} {w : World} {A : Around} {E : Value → Shared → Prop} {s : Shared} {D I T : Addr} {o : Obj} {es : Array (Int × Value)} {ep : Nat} {t : SetTable} {ns : List Int}

end
end Wa
namespace Wa
open PySem PySem.Spec PyProof.Rows
section
variable {prog : Program} {w : World} {A : Around} {E : Value → Shared → Prop} {s : Shared} {D : Addr} {ns : List Int}

end
end Wa
namespace L2
open PySem PySem.Spec PyProof.Rows

/-- the block's scope, as it stands inside a def (or block) with the scope out -/
def relS (sc out : Scope) : Scope :=
  { sc with names := sc.names.map fun (n, k) => if (k == .free && out.kind == .function && out.names.lookup n == some .cell) then (n, .cell) else (n, k) }
/-- the cells that the block takes over -/
def clOf (cells : List (Str × Addr)) : List (Str × NameKind) → List (Str × Addr) → List (Str × Addr)
  | [], acc => acc
  | (n, k) :: r, acc => clOf cells r (if k == .free then (n, (cells.lookup n).getD 0) :: acc else acc)

theorem closure_go {env : Env} : ∀ (names : List (Str × NameKind)) (acc : List (Str × Addr)), (∀ n, (n, NameKind.free) ∈ names → ∃ c, env.cells.lookup n = some c) →
    (forIn names acc fun (x : Str × NameKind) (r : List (Str × Addr)) => (if (x.2 == NameKind.free) = true then (do let a ← cellOf env x.1; pure (ForInStep.yield ((x.1, a) :: r))) else pure (ForInStep.yield r) : Sem (ForInStep (List (Str × Addr))))) = pure (clOf env.cells names acc)
  | [], acc, _ => by rw [List.forIn_nil]; rfl
  | (n, k) :: r, acc, h => by
    rw [List.forIn_cons]
    have hr : ∀ m, (m, NameKind.free) ∈ r → ∃ c, env.cells.lookup m = some c := fun m hm => h m (List.mem_cons_of_mem _ hm)
    unfold clOf
    by_cases hk : (k == NameKind.free) = true
    · have e : k = NameKind.free := beq_iff_eq.mp hk
      obtain ⟨c, hc⟩ := h n (by rw [e]; exact List.mem_cons_self)
      simp only [hk, if_true]
      have e2 : cellOf env n = pure c := by unfold cellOf; rw [hc]
      rw [e2, hc]
      exact closure_go r _ hr
    · simp only [hk, if_false, Bool.false_eq_true]
      exact closure_go r _ hr
theorem closureFor_cells {sc : Scope} {env : Env} (h : ∀ n, (n, NameKind.free) ∈ sc.names → ∃ c, env.cells.lookup n = some c) : closureFor sc env = pure (clOf env.cells sc.names []) := by
  have e := closure_go (env := env) sc.names [] h
  unfold closureFor
  exact (congrArg (fun m : Sem (List (Str × Addr)) => m >>= fun r => pure r) e).trans rfl

theorem clOf_some {cells : List (Str × Addr)} {x : Str} : ∀ (names : List (Str × NameKind)) (acc : List (Str × Addr)), ((x, NameKind.free) ∈ names ∨ (acc.lookup x).isSome = true) → ((clOf cells names acc).lookup x).isSome = true
  | [], acc, h => h.elim (fun z => nomatch z) id
  | (n, k) :: r, acc, h => by
    unfold clOf
    by_cases hk : (k == NameKind.free) = true
    · rw [if_pos hk]
      by_cases hx : x = n
      · subst hx
        exact clOf_some r _ (.inr (by rw [List.lookup_cons, beq_self_eq_true]; rfl))
      · refine clOf_some r _ ?_
        rcases h with h | h
        · rcases List.mem_cons.mp h with e | h
          · exact absurd (Prod.mk.inj e).1 hx
          · exact .inl h
        · refine .inr ?_
          rw [List.lookup_cons, beq_eq_false_iff_ne.mpr hx]
          exact h
    · rw [if_neg hk]
      refine clOf_some r _ ?_
      rcases h with h | h
      · rcases List.mem_cons.mp h with e | h
        · have := (Prod.mk.inj e).2
          subst this
          exact absurd rfl hk
        · exact .inl h
      · exact .inr h
/-- what it takes over are the def's own cells -/
theorem clOf_is {cells : List (Str × Addr)} {x : Str} {c : Addr} : ∀ (names : List (Str × NameKind)) (acc : List (Str × Addr)), (∀ n, (n, NameKind.free) ∈ names → ∃ c, cells.lookup n = some c) → (∀ c, acc.lookup x = some c → cells.lookup x = some c) →
    (clOf cells names acc).lookup x = some c → cells.lookup x = some c
  | [], acc, _, h2, h => h2 c h
  | (n, k) :: r, acc, h1, h2, h => by
    unfold clOf at h
    refine clOf_is r _ (fun m hm => h1 m (List.mem_cons_of_mem _ hm)) (fun d hd => ?_) h
    by_cases hk : (k == NameKind.free) = true
    · rw [if_pos hk, List.lookup_cons] at hd
      by_cases hx : x = n
      · subst hx
        rw [beq_self_eq_true] at hd
        obtain ⟨c', hc'⟩ := h1 x (by rw [beq_iff_eq.mp hk]; exact List.mem_cons_self)
        rw [hc'] at hd
        rw [hc']; exact hd
      · rw [beq_eq_false_iff_ne.mpr hx] at hd
        exact h2 d hd
    · rw [if_neg hk] at hd
      exact h2 d hd
/-- a cell of the block: made at its entry, or taken over -/
theorem cellsFrom_is {x : Str} {c : Addr} : ∀ (names : List (Str × NameKind)) (n : Nat) (acc : List (Str × Addr)), (cellsFrom n names acc).lookup x = some c → n ≤ c ∨ acc.lookup x = some c
  | [], _, _, h => .inr h
  | (y, k) :: r, n, acc, h => by
    unfold cellsFrom at h
    split at h
    · rcases cellsFrom_is r _ _ h with q | q
      · exact .inl (by omega)
      · rw [List.lookup_cons] at q
        split at q
        · cases q; exact .inl (Nat.le_refl _)
        · exact .inr q
    · exact cellsFrom_is r _ _ h
/-- a name's own cell is a new one -/
theorem cellsFrom_new {lo : Nat} {x : Str} {c : Addr} : ∀ (names : List (Str × NameKind)) (n : Nat) (acc : List (Str × Addr)), lo ≤ n → (names.lookup x = some .cell ∨ ∀ d, acc.lookup x = some d → lo ≤ d) → (cellsFrom n names acc).lookup x = some c → lo ≤ c
  | [], _, _, _, h, e => h.elim (fun z => nomatch z) fun z => z c e
  | (y, k) :: r, n, acc, hlo, h, e => by
    unfold cellsFrom at e
    split at e
    · rename_i hk
      refine cellsFrom_new r (n + 1) _ (by omega) ?_ e
      by_cases hx : x = y
      · subst hx
        refine .inr fun d hd => ?_
        rw [List.lookup_cons, beq_self_eq_true] at hd
        cases hd; exact hlo
      · rw [List.lookup_cons, beq_eq_false_iff_ne.mpr hx] at h
        rcases h with h | h
        · exact .inl h
        · refine .inr fun d hd => ?_
          rw [List.lookup_cons, beq_eq_false_iff_ne.mpr hx] at hd
          exact h d hd
    · rename_i hk
      refine cellsFrom_new r n acc hlo ?_ e
      rcases h with h | h
      · rw [List.lookup_cons] at h
        split at h
        · cases h; exact absurd rfl hk
        · exact .inl h
      · exact .inr h
/-- one that is not the block's own is the one taken over -/
theorem cellsFrom_old {x : Str} : ∀ (names : List (Str × NameKind)) (n : Nat) (acc : List (Str × Addr)), (x, NameKind.cell) ∉ names → (cellsFrom n names acc).lookup x = acc.lookup x
  | [], _, _, _ => rfl
  | (y, k) :: r, n, acc, h => by
    have hr : (x, NameKind.cell) ∉ r := fun z => h (List.mem_cons_of_mem _ z)
    unfold cellsFrom
    split
    · rename_i hk
      have hx : x ≠ y := fun z => h (by rw [z, ← beq_iff_eq.mp hk]; exact List.mem_cons_self)
      rw [cellsFrom_old r _ _ hr, List.lookup_cons, beq_eq_false_iff_ne.mpr hx]
    · exact cellsFrom_old r _ _ hr
/-- two names do not share a new cell -/
theorem cellsFrom_inj {x y : Str} {c : Addr} {lo : Nat} : ∀ (names : List (Str × NameKind)) (n : Nat) (acc : List (Str × Addr)), lo ≤ n → (∀ a d, acc.lookup a = some d → d < n) → (∀ a b d, lo ≤ d → acc.lookup a = some d → acc.lookup b = some d → a = b) →
    lo ≤ c → (cellsFrom n names acc).lookup x = some c → (cellsFrom n names acc).lookup y = some c → x = y
  | [], _, _, _, _, h2, hc, e1, e2 => h2 _ _ c hc e1 e2
  | (z, k) :: r, n, acc, hlo, h1, h2, hc, e1, e2 => by
    unfold cellsFrom at e1 e2
    by_cases hk : (k == NameKind.cell) = true
    · rw [if_pos hk] at e1 e2
      refine cellsFrom_inj r (n + 1) _ (by omega) (fun a d hd => ?_) (fun a b d hd ha hb => ?_) hc e1 e2
      · rw [List.lookup_cons] at hd
        split at hd
        · cases hd; exact Nat.lt_succ_self _
        · exact Nat.lt_succ_of_lt (h1 a d hd)
      · rw [List.lookup_cons] at ha hb
        split at ha
        · rename_i ea
          split at hb
          · rename_i eb
            rw [beq_iff_eq.mp ea, beq_iff_eq.mp eb]
          · cases ha
            exact absurd (h1 b n hb) (Nat.lt_irrefl _)
        · split at hb
          · cases hb
            exact absurd (h1 a n ha) (Nat.lt_irrefl _)
          · exact h2 a b d hd ha hb
    · rw [if_neg hk] at e1 e2
      exact cellsFrom_inj r n acc hlo h1 h2 hc e1 e2

theorem pushed_cell : ∀ (names : List (Str × NameKind)) (h : Heap) (acc : List (Str × Addr)), (∀ x c, acc.lookup x = some c → ∃ v, h.IsCell c v) → ∀ (x : Str) (c : Addr), (cellsFrom h.objs.size names acc).lookup x = some c → ∃ v, (pushCells h names).IsCell c v
  | [], _, _, H, x, c, e => H x c e
  | (n, k) :: r, h, acc, H, x, c, e => by
    unfold cellsFrom at e
    unfold pushCells
    by_cases hk : (k == NameKind.cell) = true
    · rw [if_pos hk] at e ⊢
      refine pushed_cell r _ ((n, h.objs.size) :: acc) (fun y d hd => ?_) x c (by rw [Heap.size_push]; exact e)
      rw [List.lookup_cons] at hd
      split at hd
      · cases hd; exact ⟨none, _, Heap.get?_push_size _ rfl, rfl⟩
      · obtain ⟨v, z⟩ := H y d hd
        exact ⟨v, z.keeps fun b o q => Heap.get?_push_of_some _ q⟩
    · rw [if_neg hk] at e ⊢
      exact pushed_cell r h acc H x c e
/-- the block's environment is made -/
theorem wpAny_compEnv {M : Model} {A : Around} {E : Value → Shared → Prop} {s : Shared} {sc : Scope} {globals : Addr} {cl : List (Str × Addr)} {qual : Str} {out : Env} {Q : Env → Shared → Prop}
    (h : Q { scope := sc, locals := s.heap.objs.size, globals := globals, cells := cellsFrom (s.heap.objs.size + 1) sc.names cl, qual := qual, func := none, code := out.code, frame := out.frame, builtins := out.builtins }
      { s with heap := pushCells (s.heap.push { cls := .type "dict", data := .dict #[] }) sc.names }) :
    wpAny M A (newFunctionEnv sc globals cl [] qual none .none (some out)) Q E s := by
  simp only [newFunctionEnv, Option.isSome_some, if_true]
  refine wpAny_bind (wpAny_alloc ?_)
  refine wpAny_bind (wpAny_layCells _ (fun name kind cells => by cases hkc : kind == NameKind.cell <;> simp [hkc]) _ _ _ _ ?_)
  rw [show ({ s with heap := s.heap.push { cls := .type "dict", data := .dict #[] } } : Shared).heap.objs.size = s.heap.objs.size + 1 from Heap.size_push ..]
  exact wpAny_bind (wpAny_pure (wpAny_pure h))
end L2
namespace L2
open PySem PySem.Spec PyProof.Rows

/-- what is asked of a block's scope sc within out: N its names, lift: which of ON they are -/
structure CompSc (out sc : Scope) (ON N : List Str) (lift : List (Option Nat)) : Prop where
  kind : sc.kind = .function
  loc : ∀ x ∈ sc.names, x.2 = .local → sc.names.lookup x.1 = some .local
  fre : ∀ n, (n, NameKind.free) ∈ sc.names → out.names.lookup n = some .cell ∨ out.names.lookup n = some .free
  len : lift.length = N.length
  up : ∀ (i j : Nat) (x : Str), lift[i]? = some (some j) → N[i]? = some x → ON[j]? = some x ∧ (x, NameKind.free) ∈ sc.names ∧ (x, NameKind.cell) ∉ sc.names ∧ sc.names.lookup x = some .free
def upChk (sc : Scope) (ON : List Str) : List Str → List (Option Nat) → Bool
  | [], [] => true
  | _ :: N, none :: l => upChk sc ON N l
  | x :: N, some j :: l => decide (ON[j]? = some x) && decide ((x, NameKind.free) ∈ sc.names) && decide ((x, NameKind.cell) ∉ sc.names) && decide (sc.names.lookup x = some .free) && upChk sc ON N l
  | _, _ => false
def compChk (out sc : Scope) (ON N : List Str) (lift : List (Option Nat)) : Bool :=
  decide (sc.kind = .function) && (sc.names.all fun x => !decide (x.2 = .local) || decide (sc.names.lookup x.1 = some .local)) &&
  (sc.names.all fun x => !decide (x.2 = .free) || (decide (out.names.lookup x.1 = some .cell) || decide (out.names.lookup x.1 = some .free))) && upChk sc ON N lift
theorem upChk_len {sc : Scope} {ON : List Str} : ∀ {N : List Str} {l : List (Option Nat)}, upChk sc ON N l = true → l.length = N.length
  | [], [], _ => rfl
  | _ :: N, none :: l, h => by simp only [List.length_cons]; rw [upChk_len (N := N) (l := l) h]
  | x :: N, some j :: l, h => by
    unfold upChk at h
    simp only [Bool.and_eq_true] at h
    simp only [List.length_cons]; rw [upChk_len (N := N) (l := l) h.2]
  | [], _ :: _, h => by unfold upChk at h; cases h
  | _ :: _, [], h => by unfold upChk at h; cases h
theorem upChk_at {sc : Scope} {ON : List Str} : ∀ {N : List Str} {l : List (Option Nat)}, upChk sc ON N l = true → ∀ (i j : Nat) (x : Str), l[i]? = some (some j) → N[i]? = some x →
    ON[j]? = some x ∧ (x, NameKind.free) ∈ sc.names ∧ (x, NameKind.cell) ∉ sc.names ∧ sc.names.lookup x = some .free
  | [], [], _, _, _, _, e, _ => by simp at e
  | _ :: N, none :: l, h, 0, j, x, e, _ => by simp at e
  | _ :: N, none :: l, h, i + 1, j, x, e, e2 => upChk_at (N := N) (l := l) h i j x (by simpa using e) (by simpa using e2)
  | y :: N, some k :: l, h, 0, j, x, e, e2 => by
    unfold upChk at h
    simp only [Bool.and_eq_true, decide_eq_true_eq] at h
    have e1 : k = j := by simpa using e
    have e3 : y = x := by simpa using e2
    subst e1; subst e3
    exact ⟨h.1.1.1.1, h.1.1.1.2, h.1.1.2, h.1.2⟩
  | y :: N, some k :: l, h, i + 1, j, x, e, e2 => by
    unfold upChk at h
    simp only [Bool.and_eq_true] at h
    exact upChk_at (N := N) (l := l) h.2 i j x (by simpa using e) (by simpa using e2)
  | [], _ :: _, h, _, _, _, _, _ => by unfold upChk at h; cases h
  | _ :: _, [], h, _, _, _, _, _ => by unfold upChk at h; cases h
theorem CompSc.of {out sc : Scope} {ON N : List Str} {lift : List (Option Nat)} (h : compChk out sc ON N lift = true) : CompSc out sc ON N lift := by
  unfold compChk at h
  simp only [Bool.and_eq_true, decide_eq_true_eq, List.all_eq_true, Bool.or_eq_true, Bool.not_eq_true', decide_eq_false_iff_not] at h
  obtain ⟨⟨⟨h1, h2⟩, h3⟩, h4⟩ := h
  exact ⟨h1, fun x hx e => (h2 x hx).elim (fun z => absurd e z) id, fun n hn => (h3 _ hn).elim (fun z => absurd rfl z) id, upChk_len h4, upChk_at h4⟩

/-- the block's slots: what is taken over -/
def liftσ (lift : List (Option Nat)) (σ : St) : St := lift.map fun o => o.bind fun j => (σ[j]?).join
theorem liftσ_at {lift : List (Option Nat)} {σ : St} {i : Nat} {v : V} (h : (liftσ lift σ)[i]? = some (some v)) : ∃ j, lift[i]? = some (some j) ∧ σ[j]? = some (some v) := by
  unfold liftσ at h
  rw [List.getElem?_map] at h
  cases e : lift[i]? with
  | none => rw [e] at h; cases h
  | some o =>
    rw [e] at h
    cases o with
    | none => cases h
    | some j =>
      refine ⟨j, rfl, ?_⟩
      have h' : (σ[j]?).join = some v := Option.some.inj h
      cases q : σ[j]? with
      | none => rw [q] at h'; cases h'
      | some z => rw [q] at h'; rw [show z = some v from h']
theorem liftσ_len {lift : List (Option Nat)} {σ : St} : (liftσ lift σ).length = lift.length := by unfold liftσ; rw [List.length_map]

/-- the block's environment -/
def compE (env : Env) (sc : Scope) (C : Addr) : Env :=
  { scope := relS sc env.scope, locals := C, globals := env.globals, cells := cellsFrom (C + 1) sc.names (clOf env.cells sc.names []), qual := env.qual, func := none, code := env.code, frame := env.frame, builtins := env.builtins }
/-- the state, heap and records at the block's entry -/
structure CB where
  s : Shared
  H : Hp
  ex : List Addr
def cxComp (X : Cx) (sc : Scope) (N : List Str) (b : CB) : Cx where
  prog := X.prog
  w := X.w
  K := X.K
  mg := X.mg
  base := X.base
  A := X.A
  N := N
  s₀ := b.s
  H₀ := b.H
  env := compE X.env sc b.s.heap.objs.size
  outer := X.stack
  stack := X.stack
  ex := b.ex
  fn := fun x => decide (sc.names.lookup x = some .cell)
  calm := X.calm
  pn := []
  xe := fun _ _ => False

theorem relS_lookup {sc out : Scope} {x : Str} : ∀ {names : List (Str × NameKind)} {k : NameKind},
    (names.map fun (n, k) => if (k == NameKind.free && out.kind == .function && out.names.lookup n == some .cell) then (n, NameKind.cell) else (n, k)).lookup x = some k →
    names.lookup x = some k ∨ (names.lookup x = some .free ∧ k = .cell)
  | [], _, h => by cases h
  | (n, k') :: r, k, h => by
    rw [List.map_cons] at h
    rw [List.lookup_cons]
    by_cases hx : (x == n) = true
    · by_cases hc : (k' == NameKind.free && out.kind == .function && out.names.lookup n == some .cell) = true
      · have hf : k' = NameKind.free := by
          simp only [Bool.and_eq_true] at hc
          exact beq_iff_eq.mp hc.1.1
        simp only [hc, if_true, List.lookup_cons, hx] at h
        simp only [hx, hf]
        exact .inr ⟨trivial, (Option.some.inj h).symm⟩
      · simp only [hc, if_false, List.lookup_cons, hx, Bool.false_eq_true] at h
        simp only [hx]
        exact .inl h
    · have hx' : (x == n) = false := by simpa using hx
      have h' : (r.map fun (n, k) => if (k == NameKind.free && out.kind == .function && out.names.lookup n == some .cell) then (n, NameKind.cell) else (n, k)).lookup x = some k := by
        by_cases hc : (k' == NameKind.free && out.kind == .function && out.names.lookup n == some .cell) = true
        · simp only [hc, if_true, List.lookup_cons, hx'] at h
          exact h
        · simp only [hc, if_false, List.lookup_cons, hx', Bool.false_eq_true] at h
          exact h
      rw [hx']
      exact relS_lookup (sc := sc) h'
theorem relS_free {out : Scope} {x : Str} : ∀ {names : List (Str × NameKind)}, names.lookup x = some .free →
    (names.map fun (n, k) => if (k == NameKind.free && out.kind == .function && out.names.lookup n == some .cell) then (n, NameKind.cell) else (n, k)).lookup x = some .cell ∨
    (names.map fun (n, k) => if (k == NameKind.free && out.kind == .function && out.names.lookup n == some .cell) then (n, NameKind.cell) else (n, k)).lookup x = some .free
  | [], h => by cases h
  | (n, k') :: r, h => by
    rw [List.map_cons]
    rw [List.lookup_cons] at h
    by_cases hx : (x == n) = true
    · simp only [hx] at h
      have hk : k' = .free := Option.some.inj h
      subst hk
      by_cases hc : (NameKind.free == NameKind.free && out.kind == .function && out.names.lookup n == some .cell) = true
      · left
        simp only [hc, if_true, List.lookup_cons, hx]
      · right
        simp only [hc, if_false, List.lookup_cons, hx, Bool.false_eq_true]
    · have hx' : (x == n) = false := by simpa using hx
      rw [hx'] at h
      have ih := relS_free (out := out) h
      by_cases hc : (k' == NameKind.free && out.kind == .function && out.names.lookup n == some .cell) = true
      · simp only [hc, if_true, List.lookup_cons, hx']
        exact ih
      · simp only [hc, if_false, List.lookup_cons, hx', Bool.false_eq_true]
        exact ih

section
variable {X : Cx} {pins : List (Addr × Obj)} {σ : St} {H H' : Hp} {s s' : Shared} {sc : Scope} {N : List Str} {lift : List (Option Nat)} {fp : List Addr}
abbrev accObj (its : List Value) (n : Nat) : Obj := { cls := .type "list", data := .seq its.toArray n }
/-- the state behind the new list -/
abbrev accS (s : Shared) : Shared := { s with heap := s.heap.push (accObj [] 0) }
abbrev cbOf (s : Shared) (H : Hp) (fp : List Addr) : CB := ⟨accS s, H, s.heap.objs.size :: fp⟩
abbrev inS (s : Shared) (sc : Scope) : Shared := { s with heap := pushCells ((accS s).heap.push { cls := .type "dict", data := .dict #[] }) sc.names }

theorem accS_size (s : Shared) : (accS s).heap.objs.size = s.heap.objs.size + 1 := Heap.size_push ..
theorem accS_keep (s : Shared) : ∀ b o, s.heap.get? b = some o → (accS s).heap.get? b = some o := fun _ _ e => Heap.get?_push_of_some _ e
theorem inS_keep (s : Shared) (sc : Scope) : ∀ b o, (accS s).heap.get? b = some o → (inS s sc).heap.get? b = some o := fun b o e => pushCells_keeps _ _ b o (Heap.get?_push_of_some _ e)

theorem Inv.hasCell (I : Inv X pins σ H s) (S : CompSc X.env.scope sc X.N N lift) : ∀ n, (n, NameKind.free) ∈ sc.names → ∃ c, X.env.cells.lookup n = some c :=
  fun n hn => I.ok.has n (S.fre n hn)
/-- the block's cells -/
theorem Inv.compCell (I : Inv X pins σ H s) (S : CompSc X.env.scope sc X.N N lift) {x : Str} {c : Addr} (h : (compE X.env sc (accS s).heap.objs.size).cells.lookup x = some c) :
    (accS s).heap.objs.size + 1 ≤ c ∨ X.env.cells.lookup x = some c := by
  rcases cellsFrom_is _ _ _ h with q | q
  · exact .inl q
  · exact .inr (clOf_is _ _ (I.hasCell S) (fun _ z => by cases z) q)
theorem Inv.oldCell (I : Inv X pins σ H s) {x : Str} {c : Addr} (h : X.env.cells.lookup x = some c) : c < s.heap.objs.size :=
  let ⟨_, q⟩ := I.cell x c h; q.lt

theorem Inv.compOk (I : Inv X pins σ H s) (S : CompSc X.env.scope sc X.N N lift) (hf : ∀ b ∈ fp, FpOk X pins H b) (ho : ∀ b ∈ fp, b < s.heap.objs.size) : (cxComp X sc N (cbOf s H fp)).Ok := by
  have sz := accS_size s
  have exlt : ∀ b ∈ s.heap.objs.size :: fp, b < (accS s).heap.objs.size := fun b hb => by
    rw [sz]
    rcases List.mem_cons.mp hb with e | hb
    · rw [e]; exact Nat.lt_succ_self _
    · exact Nat.lt_succ_of_lt (ho b hb)
  have exne : ∀ b ∈ s.heap.objs.size :: fp, ∀ x c, X.env.cells.lookup x = some c → c ≠ b := fun b hb x c e => by
    rcases List.mem_cons.mp hb with z | hb
    · rw [z]; exact Nat.ne_of_lt (I.oldCell e)
    · exact (hf b hb).2.2.2.2.1 x c e
  refine ⟨I.ok.mod, S.kind, I.ok.glob, I.ok.blt, Nat.le_refl _, fun x y c h1 h2 => ?_, fun x hx => ?_, fun x c hx h => ?_, I.ok.hd, I.ok.frames, .inl rfl, fun b hb => ⟨Nat.ne_of_lt (exlt b hb), fun x c h => ?_⟩,
    fun b o e => ⟨accS_keep s b o (I.bs b o e).1, (I.bs b o e).2⟩, ?_, fun b o e hb => ?_, fun b hb => ?_, ?_, I.stkFree⟩
  · by_cases hc : (accS s).heap.objs.size + 1 ≤ c
    · refine cellsFrom_inj (lo := (accS s).heap.objs.size + 1) _ _ _ (Nat.le_refl _) (fun a d hd => ?_) (fun a b d hd ha _ => ?_) hc h1 h2
      · have := I.oldCell (clOf_is _ _ (I.hasCell S) (fun _ z => by cases z) hd)
        exact Nat.lt_of_lt_of_le this (by rw [sz]; exact Nat.le_trans (Nat.le_succ _) (Nat.le_succ _))
      · have := I.oldCell (clOf_is _ _ (I.hasCell S) (fun _ z => by cases z) ha)
        exact absurd (Nat.lt_of_lt_of_le this (Nat.le_trans (by rw [sz]; exact Nat.le_trans (Nat.le_succ _) (Nat.le_succ _)) hd)) (Nat.lt_irrefl _)
    · have o1 := (I.compCell S h1).elim (fun z => absurd z hc) id
      have o2 := (I.compCell S h2).elim (fun z => absurd z hc) id
      exact I.ok.inj x y c o1 o2
  · have hx' : (relS sc X.env.scope).names.lookup x = some .cell ∨ (relS sc X.env.scope).names.lookup x = some .free := hx
    have : sc.names.lookup x = some .cell ∨ sc.names.lookup x = some .free := by
      rcases hx' with h | h
      · rcases relS_lookup (sc := sc) h with q | ⟨q, _⟩
        · exact .inl q
        · exact .inr q
      · rcases relS_lookup (sc := sc) h with q | ⟨_, q⟩
        · exact .inr q
        · cases q
    refine Option.isSome_iff_exists.mp (PySem.W.cellsFrom_some _ _ _ ?_)
    rcases this with q | q
    · exact .inl q
    · exact .inr (clOf_some _ _ (.inl (PySem.mem_of_lookup q)))
  · have hx' : sc.names.lookup x = some .cell := of_decide_eq_true hx
    have q := cellsFrom_new (lo := (accS s).heap.objs.size) _ _ _ (Nat.le_succ _) (.inl hx') h
    exact q
  · rcases I.compCell S h with q | q
    · exact Nat.ne_of_gt (Nat.lt_of_lt_of_le (exlt b hb) (Nat.le_trans (Nat.le_succ _) q))
    · exact exne b hb x c q
  · exact Nat.le_trans I.ok.bsz (Nat.le_trans I.sz (by show s.heap.objs.size ≤ (accS s).heap.objs.size; rw [sz]; exact Nat.le_succ _))
  · have e0 := (I.ok.bs b o e).1
    rcases List.mem_cons.mp hb with z | hb
    · exact absurd (Nat.lt_of_lt_of_le (Heap.lt_size (I.bk b o e)) (by rw [z]; exact Nat.le_refl _)) (Nat.lt_irrefl _)
    · rcases (hf b hb).2.2.2.1 with z | z
      · exact I.ok.noex b o e z
      · exact absurd (Nat.lt_of_lt_of_le (Heap.lt_size e0) z) (Nat.lt_irrefl _)
  · intro hbs
    rcases List.mem_cons.mp (I.stkSub b hbs) with z | z
    · rcases List.mem_cons.mp hb with y | y
      · rw [y] at z
        exact absurd (Nat.lt_of_lt_of_le I.lt (by rw [← z]; exact Nat.le_refl _)) (Nat.lt_irrefl _)
      · exact (hf b y).2.1 z
    · rcases List.mem_cons.mp hb with y | y
      · exact I.nofs (Nat.le_refl _) (by rw [y] at z; exact z)
      · exact (hf b y).2.2.1 z
  · exact I.stack.of_keeps fun b o e _ => ⟨o, accS_keep s b o e, rfl⟩

/-- the block's slots, wherever it has come to: the cells taken over are as they were -/
theorem Inv.relift {pl : List (Addr × Obj)} {σ2 : St} {s2 : Shared} {H2 : Hp} (I : Inv X pins σ H s) (S : CompSc X.env.scope sc X.N N lift) (I2 : Inv (cxComp X sc N (cbOf s H fp)) pl σ2 H2 s2) (hf : ∀ b ∈ fp, FpOk X pins H b) :
    Inv (cxComp X sc N (cbOf s H fp)) pl (liftσ lift σ) H2 s2 := by
  obtain ⟨m2, hn2, _⟩ := I2.loc
  refine ⟨I2.ok, I2.os, I2.bare, I2.base, ⟨m2, hn2, fun i x v e1 e2 e3 => ?_⟩, I2.cell, I2.free, I2.freeC, I2.pin, I2.hok, by rw [liftσ_len, S.len]; rfl⟩
  obtain ⟨j, hj, hv⟩ := liftσ_at e2
  obtain ⟨u1, u2, u3, u4⟩ := S.up i j x hj e1
  obtain ⟨m, hn, hl⟩ := I.loc
  have hk := S.fre x u2
  obtain ⟨u, r, l⟩ := hl j x v u1 hv (.inr hk)
  refine ⟨u, r, .inr ⟨relS_free (out := X.env.scope) u4, ?_⟩⟩
  rcases l with ⟨k, _⟩ | ⟨_, c, hc, hcell⟩
  · have k' : X.env.scope.names.lookup x = some .local := k
    rcases hk with z | z <;> (rw [z] at k'; cases k')
  · refine ⟨c, ?_, ?_⟩
    · show (cellsFrom _ sc.names (clOf X.env.cells sc.names [])).lookup x = some c
      rw [cellsFrom_old _ _ _ u3]
      obtain ⟨c', hc'⟩ := Option.isSome_iff_exists.mp (clOf_some (cells := X.env.cells) sc.names [] (.inl u2))
      rw [hc']
      have := clOf_is _ _ (I.hasCell S) (fun _ z => by cases z) hc'
      rw [hc] at this
      exact congrArg some (Option.some.inj this).symm
    · obtain ⟨o, ho, hd⟩ := hcell
      have ne : c ∉ s.heap.objs.size :: fp := fun z => by
        rcases List.mem_cons.mp z with q | q
        · exact absurd (I.oldCell hc) (by rw [q]; exact Nat.lt_irrefl _)
        · exact (hf c q).2.2.2.2.1 x c hc rfl
      obtain ⟨sl, q⟩ := I2.base.any (accS_keep s c o ho) (I.freeC x c hc) ne
      exact ⟨_, q, hd⟩

theorem Inv.comp_in (I : Inv X pins σ H s) (S : CompSc X.env.scope sc X.N N lift) (hf : ∀ b ∈ fp, FpOk X pins H b) (ho : ∀ b ∈ fp, b < s.heap.objs.size) :
    Inv (cxComp X sc N (cbOf s H fp)) [(s.heap.objs.size, accObj [] 0)] (liftσ lift σ) H (inS s sc) := by
  have ok := I.compOk (N := N) (lift := lift) S hf ho
  have sz := accS_size s
  have keep : ∀ b o, s.heap.get? b = some o → (inS s sc).heap.get? b = some o := fun b o e => inS_keep s sc b o (accS_keep s b o e)
  have fresh : ∀ c, s.heap.objs.size ≤ c → H c = none := fun c hc => I.hok.fresh hc
  have I0 : Inv (cxComp X sc N (cbOf s H fp)) [(s.heap.objs.size, accObj [] 0)] (List.replicate N.length none) H (inS s sc) := by
    refine ⟨ok, rfl, I.bare, Un.kept (inS_keep s sc), ⟨fun _ => none, (Heap.Ns.new (accS s).heap (.type "dict")).keeps (pushCells_keeps _ _), fun i x v _ e2 _ => ?_⟩, fun x c h => ?_, fresh _ (by show s.heap.objs.size ≤ (accS s).heap.objs.size; rw [sz]; exact Nat.le_succ _), fun x c h => ?_, fun p hp => ?_, I.hok.kept keep, ?_⟩
    · rw [List.getElem?_replicate] at e2
      split at e2 <;> cases e2
    · refine pushed_cell sc.names _ (clOf X.env.cells sc.names []) (fun y d hd => ?_) x c (by rw [Heap.size_push]; exact h)
      obtain ⟨v, z⟩ := I.cell y d (clOf_is _ _ (I.hasCell S) (fun _ z => by cases z) hd)
      exact ⟨v, z.keeps fun b o q => Heap.get?_push_of_some _ (accS_keep s b o q)⟩
    · rcases I.compCell S h with q | q
      · exact fresh c (Nat.le_trans (by rw [sz]; exact Nat.le_trans (Nat.le_succ _) (Nat.le_succ _)) q)
      · exact I.freeC x c q
    · have e : p = (s.heap.objs.size, accObj [] 0) := by simpa [cxComp] using hp
      subst e
      refine ⟨inS_keep s sc _ _ (Heap.get?_push_size _ rfl), fresh _ (Nat.le_refl _), ?_, fun z => ?_, fun v z => by cases z⟩
      · exact Nat.ne_of_lt (by show s.heap.objs.size < (accS s).heap.objs.size; rw [sz]; exact Nat.lt_succ_self _)
      · exact ok.exfs _ List.mem_cons_self z
    · show (List.replicate N.length none).length = N.length
      rw [List.length_replicate]
  exact I.relift S I0 hf
end
end L2
namespace L2
open PySem PySem.Spec PyProof.Rows
section
variable {X : Cx} {pins : List (Addr × Obj)} {σ : St} {H H' : Hp} {s s' : Shared} {sc : Scope} {N : List Str} {lift : List (Option Nat)} {fp : List Addr}

/-- an object that nobody tracked is tracked from here on -/
theorem Inv.adopt {D : Addr} {o : HO} (I : Inv X pins σ H s) (f : FpOk X pins H D) (h1 : X.s₀.heap.objs.size ≤ D) (new : ObjOk X.prog X.w (upd H D o) s.heap D o) : Inv X pins σ (upd H D o) s := by
  obtain ⟨f0, f1, f2, f3, f4, f5⟩ := f
  have ne0 : ∀ b ob, X.s₀.heap.get? b = some ob → b ≠ D := fun b ob e => Nat.ne_of_lt (Nat.lt_of_lt_of_le (Heap.lt_size e) h1)
  refine ⟨I.ok, I.os, I.bare, ⟨I.base.keep, I.base.slot, fun b ob e n hx => ?_, I.base.there, fun b xs e => ?_, fun b ob u e => ?_, fun b lp qn e => ?_⟩, I.loc, I.cell, ?_, fun x c e => ?_, fun p hp => ?_, fun b u e => ?_, I.len⟩
  · rw [upd_ne (ne0 b ob e)]; exact I.base.free b ob e n hx
  · have q := I.base.tups b xs e
    rw [upd_ne (ne_of_none q f0)]; exact q
  · have q := I.base.frzs b ob u e
    rw [upd_ne (ne_of_none q f0)]; exact q
  · have q := I.base.tbls b lp qn e
    rw [upd_ne (ne_of_none q f0)]; exact q
  · rw [upd_ne (Ne.symm f1)]; exact I.free
  · rw [upd_ne (f4 x c e)]; exact I.freeC x c e
  · obtain ⟨a, b, c⟩ := I.pin p hp
    exact ⟨a, by rw [upd_ne (f5 p hp)]; exact b, c⟩
  · by_cases hb : b = D
    · subst hb; rw [upd_same] at e; cases e; exact new
    · rw [upd_ne hb] at e
      exact (I.hok b u e).stay (fun _ _ _ q => q) (fun c q => by rw [upd_ne (ne_of_none q f0)]; exact q) fun c xs q => by rw [upd_ne (ne_of_none q f0)]; exact q

/-- behind the block -/
theorem Inv.comp_out {acc : List V} {its : List Value} {n : Nat} {σ' : St} (I : Inv X pins σ H s) (hf : ∀ b ∈ fp, FpOk X pins H b) (ho : ∀ b ∈ fp, b < s.heap.objs.size)
    (I' : Inv (cxComp X sc N (cbOf s H fp)) [(s.heap.objs.size, accObj its n)] σ' H' s') (r : Vals acc its) (hz : acc.length ≤ sizeLine) : Inv X pins σ (upd H' s.heap.objs.size (.lst acc)) s' := by
  have un := I'.base
  have nex : ∀ b o, s.heap.get? b = some o → b ∉ fp → b ∉ s.heap.objs.size :: fp := fun b o e hb z => by
    rcases List.mem_cons.mp z with q | q
    · exact absurd (Heap.lt_size e) (by rw [q]; exact Nat.lt_irrefl _)
    · exact hb q
  have u : Un (frs X.stack) fp H H' s.heap s'.heap :=
    ⟨fun b o e n hb hx => un.keep b o (accS_keep s b o e) n hb (nex b o e hx), fun b o e n hb hx => un.slot b o (accS_keep s b o e) n hb (nex b o e hx), fun b o e n hx => un.free b o (accS_keep s b o e) n (nex b o e hx),
      fun b o e hx => un.there b o (accS_keep s b o e) (nex b o e hx), un.tups, un.frzs, un.tbls⟩
  have I1 : Inv X pins σ H' s' := I.call' (ch := fp) (I'.os.trans rfl) u I'.hok I'.bare fun b hb => ⟨(hf b hb).2.2.2.1, (hf b hb).2.1, (hf b hb).2.2.2.2.1, (hf b hb).2.2.2.2.2⟩
  obtain ⟨e, hn, _⟩ := I'.pin (s.heap.objs.size, accObj its n) (by simp)
  refine I1.adopt (I.fpOk (Nat.le_refl _) hn) I.sz ?_
  exact ⟨hz, its, n, r, e⟩
/-- the block's own dict may be let go -/
theorem Inv.comp_let {C : Addr} {h' : Heap} {σ1 : St} (I : Inv X pins σ H s) (hC : s.heap.objs.size ≤ C) (I1 : Inv X pins σ1 H' s') (hn : H' C = none) (hs : Heap.SameBut C s'.heap h') : Inv X pins σ1 H' { s' with heap := h' } := by
  obtain ⟨f0, f1, f2, f3, f4, f5⟩ := I.fpOk hC hn
  exact I1.turned (t' := s'.toks) (fun b o hb e => (hs.2 b hb).trans e) f0 f1 f3 f4 f5
end

section
variable {prog : Program} {w : World} {A : Around} {R : Result → Shared → Prop} {s : Shared}
/-- the turns of a comprehension: no error leaves them -/
theorem comp_turns {elt target iter : Expr} {ifs : List Expr} {scope : Scope} {pos : Pos} {it acc : Value} {env : Env} (I : Nat → Shared → Prop)
    (turn : ∀ n s, I n s → wpAny (model prog w) A (pyNext it) (fun r s₁ => match r with
      | none => R (.ok .next) s₁
      | some v => wpAny (model prog w) A (letOwnedTupleGo target it v) (fun _ s₁' => wpAny (model prog w) A (assign target env v) (fun _ s₂ =>
          wpAny (model prog w) A (forIn ifs true fun c r => if r = true then do let ok ← isTrue c env (eval c env); pure (ForInStep.yield ok) else pure (ForInStep.yield r)) (fun ok s₃ =>
            if ok = true then wpAny (model prog w) A (eval elt env) (fun x s₄ =>
              wpAny (model prog w) A (call (.builtin "list.append") [acc, x]) (fun _ s₅ => ∃ m, m < n ∧ I m s₅) (fun _ _ => False) s₄) (fun _ _ => False) s₃
            else ∃ m, m < n ∧ I m s₃) (fun _ _ => False) s₂) (fun _ _ => False) s₁') (fun _ _ => False) s₁) (fun _ _ => False) s)
    (n : Nat) (h : I n s) : codeAny (model prog w) A (.compLoop (.ListComp elt [⟨target, iter, ifs, 0⟩] scope pos) 0 it acc env) R s := by
  refine codeAny_loop rfl I (fun n s hI => ?_) n h
  show wpAny _ A ((compTurn (.ListComp elt [⟨target, iter, ifs, 0⟩] scope pos) 0 it acc env).onRaise (fun x => do noteFrame x env; theTreesLotGoes x)) _ _ s
  refine wpAny_noted ?_
  rw [compTurn_list]
  refine wpAny_bind (wpAny_standAt (wpAny_bind (wpAny_mono (turn n s hI) (fun r s₁ h₁ => ?_) fun _ _ h' => h'.elim)))
  cases r with
  | none => exact wpAny_pure h₁
  | some v =>
    refine wpAny_bind (wpAny_mono h₁ (fun _ s₁' h₁' => ?_) fun _ _ h' => h'.elim)
    refine wpAny_bind (wpAny_mono h₁' (fun _ s₂ h₂ => wpAny_bind (wpAny_mono h₂ (fun ok s₃ h₃ => ?_) fun _ _ h' => h'.elim)) fun _ _ h' => h'.elim)
    cases ok with
    | false => exact wpAny_pure ⟨rfl, h₃⟩
    | true =>
      exact wpAny_bind (wpAny_bind (wpAny_mono h₃ (fun x s₄ h₄ => wpAny_bind (wpAny_mono h₄ (fun _ s₅ h₅ => wpAny_pure (wpAny_pure ⟨rfl, h₅⟩)) fun _ _ h' => h'.elim)) fun _ _ h' => h'.elim))
end

/-- the tests of a clause -/
def PIf (X : Cx) (ifs : List Expr) (t : TT) : Prop :=
  ∀ (pins : List (Addr × Obj)) (s : Shared) (σ : St) (H : Hp) (Q : Bool → Hp → Prop), Inv X pins σ H s → t σ H Q →
    wpAny (model X.prog X.w) X.A (forIn ifs true fun c r => if r = true then do let ok ← isTrue c X.env (eval c X.env); pure (ForInStep.yield ok) else pure (ForInStep.yield r)) (TP X pins σ Q) X.xe s
def tIfs0 : TT := fun _ H Q => Q true H
theorem pifs_nil {X : Cx} : PIf X [] tIfs0 := fun _ _ _ H _ I h => wpAny_tests_nil ⟨H, I, h⟩
theorem pifs_one {X : Cx} {c : Expr} {t : TT} (h : PT X c t) : PIf X [c] t := fun pins s σ H Q I hq => wpAny_tests_one (h pins s σ H Q I hq)

/-- what a comprehension asks: W, the invariant by the turn, a measure, what has been gathered, and the heap -/
def CompW (J : It) (lσ : St) (g : TG) (tc : TT) (te : TE) (H1 : Hp) (R : List V → Hp → Prop) : Prop :=
  ∃ W : Nat → Nat → List V → Hp → Prop, (∃ m, W 0 m [] H1) ∧ ∀ i m acc H, W i m acc H →
    (J.stop i H ∧ R acc H) ∨ (J.go i H ∧ acc.length < sizeLine ∧ ∃ N : List V → Hp → Prop, (∀ acc' H', N acc' H' → ∃ m', m' < m ∧ W (i + 1) m' acc' H') ∧ ∀ x H', J.yld i H x H' → g x lσ H' fun σ2 H2 => tc σ2 H2 fun b H3 =>
      if b = true then te σ2 H3 fun v H4 => N (acc ++ [v]) H4 else N acc H3)
/-- .. the list gathered is new -/
def CompV (J : It) (lσ : St) (g : TG) (tc : TT) (te : TE) (H1 : Hp) (Q : VK) : Prop := CompW J lσ g tc te H1 fun acc H2 => ∀ D, H2 D = none → Q (.ref D) (upd H2 D (.lst acc))
def tComp (lift : List (Option Nat)) (wi : TI) (g : TG) (tc : TT) (te : TE) : TE := fun σ H Q => wi σ H fun J H1 => CompV J (liftσ lift σ) g tc te H1 Q
def tCompS (i : Nat) (lift : List (Option Nat)) (wi : TI) (g : TG) (tc : TT) (te : TE) : TS := fun E σ H => wi σ H fun J H1 => CompV J (liftσ lift σ) g tc te H1 fun v H2 => E.nx (σ.set i (some v)) H2

section
variable {X : Cx} {sc : Scope} {N : List Str} {lift : List (Option Nat)} {elt tg iter : Expr} {ifs : List Expr} {pos : Pos} {wi : TI} {g : TG} {tc : TT} {te : TE}
/-- the block, from its iterator on -/
theorem comp_block {pins : List (Addr × Obj)} {σ : St} {s : Shared} {H : Hp} {R : List V → Hp → Prop} {RR : Result → Shared → Prop} {it : Addr} {fp : List Addr} {tn : Nat → Heap → Prop} {J : It}
    (S : CompSc X.env.scope sc X.N N lift) (hc : X.calm = true) (hg : ∀ b, PG (cxComp X sc N b) tg g) (ht : ∀ b, PIf (cxComp X sc N b) ifs tc) (he : ∀ b, PE (cxComp X sc N b) elt te)
    (I : Inv X pins σ H s) (T : Turn X.prog X.w X.K tg J fp it tn) (st : tn 0 s.heap) (hf : ∀ b ∈ fp, FpOk X pins H b) (hq : CompW J (liftσ lift σ) g tc te H R)
    (fin : ∀ (acc : List V) (H' : Hp) (s' : Shared), Inv X pins σ (upd H' s.heap.objs.size (.lst acc)) s' → H' s.heap.objs.size = none → H' (accS s).heap.objs.size = none → (∃ m, s'.heap.Ns (accS s).heap.objs.size m) → R acc H' → RR (.ok .next) s') :
    codeAny (model X.prog X.w) X.A (.compStart (.ListComp elt [⟨tg, iter, ifs, 0⟩] sc pos) 0 (.ref it) (.ref s.heap.objs.size) (compE X.env sc (accS s).heap.objs.size)) RR (inS s sc) := by
  obtain ⟨W, ⟨m0, w0⟩, turn⟩ := hq
  have ho : ∀ b ∈ fp, b < s.heap.objs.size := fun b hb => let ⟨o, e, _⟩ := T.obj 0 _ st b hb; Heap.lt_size e
  have Dfp : s.heap.objs.size ∉ fp := fun z => Nat.lt_irrefl _ (ho _ z)
  have I0 := I.comp_in S hf ho
  have st0 : tn 0 (inS s sc).heap := T.keep _ _ _ st fun b _ o e => inS_keep s sc b o (accS_keep s b o e)
  -- the iterator's objects, in the block
  have stat : ∀ {pl : List (Addr × Obj)} {H' : Hp}, (∀ p ∈ pl, p.1 = s.heap.objs.size) → (∀ b ∈ fp, H' b = none) → ∀ b ∈ fp, FpOk (cxComp X sc N (cbOf s H fp)) pl H' b := fun {pl H'} hpl hn b hb => by
    refine ⟨hn b hb, (I0.ok.exf b (List.mem_cons_of_mem _ hb)).1, I0.ok.exfs b (List.mem_cons_of_mem _ hb), .inl (List.mem_cons_of_mem _ hb), (I0.ok.exf b (List.mem_cons_of_mem _ hb)).2, fun p hp => ?_⟩
    have hp' : p ∈ pl := by simpa [cxComp] using hp
    rw [hpl p hp']
    exact fun z => Dfp (z ▸ hb)
  have one : ∀ (o : Obj), ∀ p ∈ [(s.heap.objs.size, o)], p.1 = s.heap.objs.size := fun o p hp => by rw [List.mem_singleton.mp hp]
  have loop : codeAny (model X.prog X.w) X.A (.compLoop (.ListComp elt [⟨tg, iter, ifs, 0⟩] sc pos) 0 (.ref it) (.ref s.heap.objs.size) (compE X.env sc (accS s).heap.objs.size)) RR (inS s sc) := by
    refine comp_turns (fun n s' => ∃ i acc its k H', Inv (cxComp X sc N (cbOf s H fp)) [(s.heap.objs.size, accObj its k)] (liftσ lift σ) H' s' ∧ Vals acc its ∧ acc.length ≤ sizeLine ∧ tn i s'.heap ∧ (∀ b ∈ fp, H' b = none) ∧ W i n acc H') ?_ m0
      ⟨0, [], [], 0, H, I0, .nil, Nat.zero_le _, st0, fun b hb => (hf b hb).1, w0⟩
    rintro n s3 ⟨i, acc, its, k, H3, I3, rv, hz, st3, fr3, w3⟩
    rcases turn i n acc H3 w3 with ⟨stop, qn⟩ | ⟨go, hlt, M, hM, step⟩
    · refine thn (T.done (cxComp X sc N (cbOf s H fp)) rfl rfl rfl hc i _ s3 _ H3 _ I3 (stat (one _) fr3) st3 stop) fun r s4 ⟨hr, I4⟩ => ?_
      subst hr
      obtain ⟨m4, hn4, _⟩ := I4.loc
      exact fin acc H3 s4 (I.comp_out hf ho I4 rv hz) (I4.pin (s.heap.objs.size, accObj its k) (by simp)).2.1 I4.free ⟨m4, hn4⟩ qn
    · refine thn (T.item (cxComp X sc N (cbOf s H fp)) rfl rfl rfl hc i _ s3 _ H3 _ I3 (stat (one _) fr3) st3 go) fun r s4 ⟨u, hr, h4⟩ => ?_
      subst hr
      refine thn h4 fun _ s5 ⟨x, H5, I5, r5, y5, st5, fr5⟩ => ?_
      have I5' := I5.pinned (stat (one _) fr5) (T.obj _ _ st5)
      refine thn (hg _ _ s5 _ H5 x u _ I5' r5 (step x H5 y5)) fun _ s6 ⟨σ6, H6, I6, q6⟩ => ?_
      refine thn (ht _ _ s6 σ6 H6 _ I6 q6) fun b s7 ⟨H7, I7, q7⟩ => ?_
      -- the records through the turn
      have next : ∀ {σ8 : St} {H8 : Hp} {s8 : Shared} {its' : List Value} {k' : Nat}, Inv (cxComp X sc N (cbOf s H fp)) ([(s.heap.objs.size, accObj its' k')] ++ pinsAt fp s5.heap) σ8 H8 s8 →
          Inv (cxComp X sc N (cbOf s H fp)) [(s.heap.objs.size, accObj its' k')] (liftσ lift σ) H8 s8 ∧ tn (i + 1) s8.heap ∧ ∀ b ∈ fp, H8 b = none := fun {σ8 H8 s8 its' k'} I8 => by
        refine ⟨I.relift S I8.unpinned hf, T.keep _ _ _ st5 fun b hb o e => (I8.pin (b, o) (List.mem_append_right _ (List.mem_append_right _ (mem_pinsAt hb e)))).1, fun b hb => ?_⟩
        obtain ⟨o, e, d⟩ := T.obj _ _ st5 b hb
        exact (I8.pin (b, o) (List.mem_append_right _ (List.mem_append_right _ (mem_pinsAt hb e)))).2.1
      cases b with
      | false =>
        rw [if_neg Bool.false_ne_true] at q7 ⊢
        obtain ⟨m', hm, w7⟩ := hM _ _ q7
        obtain ⟨a1, a2, a3⟩ := next I7
        exact ⟨m', hm, i + 1, acc, its, k, H7, a1, rv, hz, a2, a3, w7⟩
      | true =>
        rw [if_pos rfl] at q7 ⊢
        refine thn (he _ _ s7 σ6 H7 _ I7 q7) fun y s8 ⟨v, H8, I8, r8, q8⟩ => ?_
        obtain ⟨m', hm, w8⟩ := hM _ _ q8
        obtain ⟨eD, nD, _⟩ := I8.pin (s.heap.objs.size, accObj its k) (by simp)
        have hl := rv.length
        refine call_meets F.slot_list_append ⟨_, eD, rfl⟩ F.entry_list_append (F.args_list_append_2 _ _) (PySem.list_append s.heap.objs.size its.toArray k y (by rw [List.size_toArray]; omega)) ⟨eD, ?_⟩
        -- the list has grown
        have e9 := PySem.IsL.update eD (fun a : Array Value => a.push y)
        generalize (if ((its.toArray.push y).size == its.toArray.size) = true then k else k + 1) = k9 at e9
        have I9 : Inv (cxComp X sc N (cbOf s H fp)) (pinsAt fp s5.heap) σ6 H8 { s8 with heap := s8.heap.update s.heap.objs.size (Obj.mapSeq fun a => a.push y), toks := s8.toks } := by
          have J : Inv (cxComp X sc N (cbOf s H fp)) (pinsAt fp s5.heap) σ6 H8 s8 := I8.pins_of fun p hp => I8.pin p (List.mem_append_right _ (List.mem_append_right _ hp))
          refine J.turned (it := s.heap.objs.size) (fun b o hb e => (Heap.get?_update_other _ _ (Ne.symm hb)).trans e) nD (J.ok.exf _ List.mem_cons_self).1 (.inl List.mem_cons_self) (J.ok.exf _ List.mem_cons_self).2 fun p hp z => ?_
          have hp' : p ∈ pinsAt fp s5.heap := by simpa [cxComp] using hp
          exact Dfp (z ▸ (of_pinsAt hp').1)
        have I10 : Inv (cxComp X sc N (cbOf s H fp)) ([(s.heap.objs.size, accObj (its ++ [y]) k9)] ++ pinsAt fp s5.heap) σ6 H8 { s8 with heap := s8.heap.update s.heap.objs.size (Obj.mapSeq fun a => a.push y), toks := s8.toks } := by
          refine I9.pins_of fun p hp => ?_
          rcases List.mem_append.mp hp with z | z
          · rw [List.mem_singleton.mp z]
            refine ⟨?_, nD, (I9.ok.exf _ List.mem_cons_self).1, I9.ok.exfs _ List.mem_cons_self, fun v z => by cases z⟩
            show (s8.heap.update s.heap.objs.size (Obj.mapSeq fun a => a.push y)).get? s.heap.objs.size = some (accObj (its ++ [y]) k9)
            rw [show accObj (its ++ [y]) k9 = { cls := .type "list", data := .seq (its.toArray.push y) k9 } by simp [accObj]]
            exact e9
          · exact I9.pin p (List.mem_append_right _ z)
        obtain ⟨a1, a2, a3⟩ := next I10
        exact ⟨m', hm, i + 1, acc ++ [v], its ++ [y], k9, H8, a1, rv.append (.cons r8 .nil), by rw [List.length_append, List.length_singleton]; omega, a2, a3, w8⟩
  exact codeAny_compStart_list loop (T.self _ 0 _ _ _ st0 loop)

theorem pe_compB (S : CompSc X.env.scope sc X.N N lift) (hi : PI X tg iter wi) (hg : ∀ b, PG (cxComp X sc N b) tg g) (ht : ∀ b, PIf (cxComp X sc N b) ifs tc) (he : ∀ b, PE (cxComp X sc N b) elt te)
    (hc : X.calm = true := by rfl) (hs : ∀ x, foldedSetIterable iter X.env x = pure x := by intro _; rfl) : PE X (.ListComp elt [⟨tg, iter, ifs, 0⟩] sc pos) (tComp lift wi g tc te) := by
  intro pins s σ H Q I h
  rw [eval_ListComp]
  refine wpAny_comprehension_free (use := none) rfl hs (closureFor_cells (I.hasCell S)) S.kind S.loc ?_
  refine thn (hi pins s σ H _ I h) fun v s1 h1 => thn h1 fun itv s2 h2 => ?_
  obtain ⟨it, fp, tn, J, H2, e, I2, T, st2, f2, hq⟩ := h2
  subst e
  refine wpAny_newObj_type (wpAny_compEnv ?_)
  refine comp_block S hc hg ht he I2 T st2 f2 hq fun acc H' s' I' nD nC hn q => ?_
  obtain ⟨m, hn⟩ := hn
  refine ⟨m, hn, fun h' hs' => ⟨.ref s2.heap.objs.size, _, I2.comp_let (C := (accS s2).heap.objs.size) (by rw [accS_size]; exact Nat.le_succ _) I' ?_ hs', rfl, q _ nD⟩⟩
  rw [upd_ne (by rw [accS_size]; exact Nat.ne_of_gt (Nat.lt_succ_self _))]
  exact nC

end
/-- the block's readings may be told with its context in hand, as long as they come to the same -/
def cb0 (X : Cx) : CB := ⟨X.s₀, X.H₀, []⟩
section
variable {X : Cx} {sc : Scope} {N : List Str} {lift : List (Option Nat)} {elt tg iter : Expr} {ifs : List Expr} {pos : Pos} {wi : TI} {g : CB → TG} {tc : CB → TT} {te : CB → TE}
theorem pe_comp (S : CompSc X.env.scope sc X.N N lift) (hi : PI X tg iter wi) (hg : ∀ b, PG (cxComp X sc N b) tg (g b)) (ht : ∀ b, PIf (cxComp X sc N b) ifs (tc b)) (he : ∀ b, PE (cxComp X sc N b) elt (te b))
    (eg : ∀ b, g b = g (cb0 X) := by intro _; rfl) (et : ∀ b, tc b = tc (cb0 X) := by intro _; rfl) (ee : ∀ b, te b = te (cb0 X) := by intro _; rfl)
    (hc : X.calm = true := by rfl) (hs : ∀ x, foldedSetIterable iter X.env x = pure x := by intro _; rfl) : PE X (.ListComp elt [⟨tg, iter, ifs, 0⟩] sc pos) (tComp lift wi (g (cb0 X)) (tc (cb0 X)) (te (cb0 X))) :=
  pe_compB S hi (fun b => eg b ▸ hg b) (fun b => et b ▸ ht b) (fun b => ee b ▸ he b) hc hs
end
end L2
namespace L2
open PySem PySem.Spec PyProof.Rows
section
variable {X : Cx} {pins : List (Addr × Obj)} {σ : St} {H : Hp} {s : Shared} {h' : Heap} {t' : Nat} {ch : List Addr}
/-- some records of ours have turned -/
theorem Inv.turnedN (I : Inv X pins σ H s) (hch : ∀ b ∈ ch, FpOk X pins H b) (k : ∀ b o, b ∉ ch → s.heap.get? b = some o → h'.get? b = some o) : Inv X pins σ H { s with heap := h', toks := t' } := by
  have nit : ∀ b u, H b = some u → b ∉ ch := fun b u e z => by rw [(hch b z).1] at e; cases e
  refine I.step (g' := s.gens) (d' := s.drawn) (ch := ch) (fun b hb => ⟨(hch b hb).2.2.2.1, (hch b hb).2.1, (hch b hb).2.2.2.2.1, (hch b hb).2.2.2.2.2⟩) (fun b o _ _ hc e _ => k b o hc e) (fun b o _ _ hc e _ => ⟨o.slots, k b o hc e⟩) (fun _ _ _ _ n => n)
    (fun b o hc e => ⟨o, k b o hc e⟩) (fun _ _ e => e) (fun _ _ _ e => e) (fun _ _ _ e => e) (fun m hm => ?_) (fun b u e => ?_) I.bare
  · obtain ⟨o, es, ep, ho, r⟩ := hm
    exact ⟨o, es, ep, k _ o (fun z => (hch _ z).2.1 rfl) ho, r⟩
  · refine (I.hok b u e).stay (fun c v hc q => k c v ?_ q) (fun _ q => q) fun _ _ q => q
    rcases hc with z | z
    · rw [z]; exact nit b u e
    · exact nit c _ z
/-- .. and a new object has been laid -/
theorem Inv.turnLay {T : Addr} {o : HO} (I : Inv X pins σ H s) (hch : ∀ b ∈ ch, FpOk X pins H b) (k : ∀ b o, b ∉ ch → s.heap.get? b = some o → h'.get? b = some o) (hT : s.heap.objs.size ≤ T)
    (new : ObjOk X.prog X.w (upd H T o) h' T o) : Inv X pins σ (upd H T o) { s with heap := h', toks := t' } := by
  have I1 : Inv X pins σ H { s with heap := h', toks := t' } := I.turnedN hch k
  exact I1.adopt (I.fpOk hT (I.hok.fresh hT)) (Nat.le_trans I.sz hT) new
end

/-- (0, x), (1, y), .. of the list at a -/
def Ite (K : PySem.W.Frag) (a : Addr) : It :=
  ⟨fun i H => ∃ xs x, SqL K H a xs ∧ xs[i]? = some x, fun i H y H' => ∃ T x, y = .ref T ∧ H T = none ∧ H' = upd H T (.tup [.int i, x]) ∧ ∀ xs, SqL K H a xs → xs[i]? = some x, fun i H => ∃ xs, SqL K H a xs ∧ xs.length ≤ i⟩
theorem two_le : 2 ≤ sizeLine := by decide
theorem turn_enum {P : Program} {w : World} {K : PySem.W.Frag} {elts : List Expr} {kk : Nat} {pos : Pos} (a e it : Addr) (hne : e ≠ it) :
    Turn P w K (.Tuple elts kk pos) (Ite K a) [e, it] e (fun i h => (∃ old, IsEnum h e it i old) ∧ h.IsListIter it a i) where
  mem := by simp
  obj := fun i h st b hb => by
    obtain ⟨⟨old, st1⟩, o, e2, c, d⟩ := st
    rcases List.mem_cons.mp hb with z | z
    · rw [z]; exact ⟨_, st1, fun v q => by cases q⟩
    · rw [List.mem_singleton.mp z]
      exact ⟨o, e2, fun v q => by rw [d] at q; cases q⟩
  keep := fun i h h' st k => ⟨let ⟨old, q⟩ := st.1; ⟨old, k e (by simp) _ q⟩, st.2.at fun o q => k it (by simp) o q⟩
  item := by
    intro X hP hw hK hc i pins s σ H E I hf st hg
    subst hP hw hK
    obtain ⟨xs, x, hq, hx⟩ := hg
    obtain ⟨its, rv, p, hz⟩ := I.list hq
    obtain ⟨u, hu, ru⟩ := rv.get hx
    obtain ⟨⟨old, se⟩, si⟩ := st
    refine wpAny_pyNext_enum_item se si p.isList (x := u) (by simpa using hu) hne fun h1 a1 a2 a3 a4 a5 => ?_
    have ne : ∀ b ∈ [e, it], b ≠ s.heap.objs.size := fun b hb => by
      rcases List.mem_cons.mp hb with z | z
      · rw [z]; exact Nat.ne_of_lt (Heap.lt_size se)
      · obtain ⟨o, q, _⟩ := si
        rw [List.mem_singleton.mp z]; exact Nat.ne_of_lt (Heap.lt_size q)
    have I1 : Inv X pins σ (upd H s.heap.objs.size (.tup [.int i, x])) { s with heap := h1, toks := s.toks + 1 } :=
      I.turnLay hf (fun b o hb q => a5 b o (fun z => hb (by simp [z])) (fun z => hb (by simp [z])) q) (Nat.le_refl _) ⟨two_le, [.int i s.toks, u], .cons ⟨_, rfl⟩ (.cons ru .nil), ⟨_, a3, rfl, _, rfl⟩⟩
    have f1 : ∀ b ∈ [e, it], FpOk X pins (upd H s.heap.objs.size (.tup [.int i, x])) b := fun b hb => ⟨by rw [upd_ne (ne b hb)]; exact (hf b hb).1, (hf b hb).2⟩
    refine ⟨_, rfl, wpAny_letOwnedTupleGo_enum a1 fun h2 b1 b2 => ?_⟩
    have I2 : Inv X pins σ (upd H s.heap.objs.size (.tup [.int i, x])) { s with heap := h2, toks := s.toks + 1 } :=
      I1.turnedN (s := { s with heap := h1, toks := s.toks + 1 }) (t' := s.toks + 1) (ch := [e]) (fun b hb => f1 b (by rw [List.mem_singleton.mp hb]; simp)) fun b o hb q => (b2.2 b (fun z => hb (by simp [z]))).trans q
    exact ⟨.ref s.heap.objs.size, _, I2, rfl, ⟨_, x, rfl, I.hok.fresh (Nat.le_refl _), rfl, fun ys hy => by rw [I.list_inj hy hq]; exact hx⟩, ⟨⟨_, b1⟩, a2.at fun o q => (b2.2 it (Ne.symm hne)).trans q⟩, fun b hb => (f1 b hb).1⟩
  done := by
    intro X hP hw hK hc i pins s σ H E I hf st hg
    subst hP hw hK
    obtain ⟨xs, hq, hx⟩ := hg
    obtain ⟨its, rv, p, hz⟩ := I.list hq
    obtain ⟨⟨old, se⟩, si⟩ := st
    have hl := rv.length
    exact wpAny_pyNext_enum_end (I.ok.hd hc) se si p.isList (by simp; omega) fun h1 eb => ⟨rfl, I.turnedN (t' := s.toks) (ch := [it]) (fun b hb => hf b (by rw [List.mem_singleton.mp hb]; simp)) fun b o hb q => eb b o (fun z => hb (by simp [z])) q⟩
  self := fun _ _ _ _ _ st h => let ⟨_, q⟩ := st.1; wpAny_pyIter_enum q h
def iEnum (K : PySem.W.Frag) (ta : TA) : TI := fun σ H R => ta σ H fun vs H1 => ∃ a, vs = [.ref a] ∧ (∃ xs, SqL K H1 a xs) ∧ R (Ite K a) H1
theorem pi_enum {X : Cx} {elts : List Expr} {kk : Nat} {tpos : Pos} {a : Expr} {ta : TA} {p pos : Pos} (hg : Gl X "enumerate") (hm : X.mg "enumerate" = none) (ha : PA X [a] ta) (hs : starEach [a] X.env = [(false, eval a X.env)] := by rfl) :
    PI X (.Tuple elts kk tpos) (.Call (.Name "enumerate" p) [a] [] pos) (iEnum X.K ta) := by
  intro pins s σ H R I h
  refine Call_ (ld_blt I hg hm PyProof.Rows.boot_enumerate (PyProof.Rows.callWith_type1 (thn (ha pos pins s σ H _ I h) fun us s1 ⟨vs, H1, I1, r1, q1⟩ => ?_) hs rfl))
  obtain ⟨l, e, ⟨xs, hq⟩, q⟩ := q1
  subst e
  cases r1 with
  | cons r rr =>
    cases rr
    obtain rfl : _ = Value.ref l := r
    obtain ⟨its, rv, pl, hz⟩ := I1.list hq
    refine call_enumerate_list pl.isList fun h1 b1 b2 b3 b4 => ?_
    refine wpAny_pyIter_enum b1 ?_
    refine ⟨s1.heap.objs.size + 1, [s1.heap.objs.size + 1, s1.heap.objs.size], _, _, H1, rfl, I1.kept (t' := s1.toks) b4, turn_enum l _ _ (Nat.ne_of_gt (Nat.lt_succ_self _)), ⟨⟨_, b1⟩, b2⟩, fun b hb => ?_, q⟩
    have hb' : s1.heap.objs.size ≤ b := by
      rcases List.mem_cons.mp hb with z | z
      · rw [z]; exact Nat.le_succ _
      · rw [List.mem_singleton.mp z]; exact Nat.le_refl _
    exact I1.fpOk hb' (I1.hok.fresh hb')

/-- the pairs of the lists at a and b -/
def Itz (K : PySem.W.Frag) (a b : Addr) : It :=
  ⟨fun i H => ∃ xs ys x y, SqL K H a xs ∧ SqL K H b ys ∧ xs[i]? = some x ∧ ys[i]? = some y,
    fun i H z H' => ∃ T x y, z = .ref T ∧ H T = none ∧ H' = upd H T (.tup [x, y]) ∧ ∀ xs ys, SqL K H a xs → SqL K H b ys → xs[i]? = some x ∧ ys[i]? = some y,
    fun i H => ∃ xs ys, SqL K H a xs ∧ SqL K H b ys ∧ (xs.length ≤ i ∨ ys.length ≤ i)⟩
def iZip (K : PySem.W.Frag) (ta : TA) : TI := fun σ H R => ta σ H fun vs H1 => ∃ a b, vs = [.ref a, .ref b] ∧ (∃ xs, SqL K H1 a xs) ∧ (∃ ys, SqL K H1 b ys) ∧ R (Itz K a b) H1
end L2
namespace L2
open PySem PySem.Spec PyProof.Rows

theorem vals_get {xs : List V} {us : List Value} (r : Vals xs us) {i : Nat} {u : Value} (h : us[i]? = some u) : ∃ x, xs[i]? = some x ∧ RelV x u := by
  have hl := r.length
  have hi : i < us.length := (List.getElem?_eq_some_iff.mp h).1
  have e : xs[i]? = some xs[i] := List.getElem?_eq_getElem (by omega)
  obtain ⟨u', e', r'⟩ := r.get e
  rw [h] at e'; cases e'
  exact ⟨_, e, r'⟩
theorem strs_of {xs : List Str} : ∀ {us : List Value}, Vals (xs.map V.str) us → StrsAre us xs := by
  induction xs with
  | nil => intro us h; cases h; exact .nil
  | cons x xs ih =>
    intro us h
    cases h with
    | cons r t =>
      obtain ⟨k, rfl⟩ := r
      exact .cons x k (ih t)

section
variable {X : Cx}
/-- truth of a bool -/
theorem truth_bools {P : Program} {w : World} {A : Around} {its : Array Value} {bs : List Bool} (h : its.toList = bs.map Value.bool) : TruthOf P w A (fun i v => its[i]? = some v) (fun i => bs.getD i false) := by
  intro i v s Q E hv hq
  have e : its[i]? = (bs[i]?).map Value.bool := by rw [← Array.getElem?_toList, h, List.getElem?_map]
  rw [e] at hv
  cases hb : bs[i]? with
  | none => rw [hb] at hv; cases hv
  | some b =>
    rw [hb] at hv; cases hv
    have hq' : Q b s := by simpa [hb] using hq
    exact wpAny_pure hq'
theorem range_all (bs : List Bool) : (List.range bs.length).all (fun i => bs.getD i false) = bs.all id := by
  rw [Bool.eq_iff_iff, List.all_eq_true, List.all_eq_true]
  constructor
  · intro h b hb
    obtain ⟨i, hi, rfl⟩ := List.getElem_of_mem hb
    have := h i (List.mem_range.mpr hi)
    simpa [hi] using this
  · intro h i hi
    have hi' := List.mem_range.mp hi
    have := h _ (List.getElem_mem hi')
    simpa [hi'] using this
theorem bools_of {bs : List Bool} : ∀ {us : List Value}, Vals (bs.map V.bl) us → us = bs.map Value.bool := by
  induction bs with
  | nil => intro us h; cases h; rfl
  | cons b bs ih =>
    intro us h
    cases h with
    | cons r t => rw [ih t]; rw [show _ = Value.bool b from r]; rfl
theorem call_all (hc : X.calm = true) : CallR X (.builtin "all") (fun xs H Q => ∃ (p : Addr) (bs : List Bool), xs = [.ref p] ∧ SqL X.K H p (bs.map V.bl) ∧ Q (.bl (bs.all id)) H) := by
  intro pins s σ H xs us Q I r h
  obtain ⟨p, bs, rfl, hq, q⟩ := h
  obtain ⟨u, rfl, ru⟩ := vals1 r
  obtain rfl : u = Value.ref p := ru
  obtain ⟨its, rv, pl, hz⟩ := I.list hq
  have hb := bools_of rv
  have lp : p < s.heap.objs.size := by obtain ⟨o, e, _⟩ := pl.isList; exact Heap.lt_size e
  refine call_all_walk (wpAny_pyIter_list pl.isList ?_)
  have hl : its.toArray.size = bs.length := by rw [hb]; simp
  refine ⟨s.heap.objs.size, _, _, _, _, _, fun i => bs.getD i false, rfl, Walks.list (A := X.A.in1) (I.ok.hd hc) _ p (Nat.ne_of_lt lp) its.toArray, ⟨⟨_, Heap.get?_push_size _ rfl, rfl, rfl⟩, pl.isList.push _⟩, truth_bools (by simpa using hb), fun h' tk k => ?_⟩
  rw [hl, range_all]
  exact ⟨.bl _, H, I.kept fun b o e => k b o (by simp; exact Nat.ne_of_lt (Heap.lt_size e)) (Heap.get?_push_of_some _ e), rfl, q⟩
/-- a value's own type, by the abstract heap -/
def KindV (K : PySem.W.Frag) (x : V) (H : Hp) (T : String) : Prop := match x with
  | .non => T = "NoneType"
  | .bl _ => T = "bool"
  | .int _ => T = "int"
  | .str _ => T = "str"
  | .ref a => (T = "list" ∧ ∃ xs, SqL K H a xs) ∨ (T = "tuple" ∧ ∃ xs, SqT K H a xs) ∨ (T = "dict" ∧ ∃ kvs, H a = some (.dK kvs))
  | _ => False
/-- is a T a U? (the types met here) -/
def subT (T U : String) : Bool := T == U || (T == "bool" && U == "int")
def rIsi (K : PySem.W.Frag) : List V → Hp → VK → Prop := fun xs H Q => ∃ x T U, xs = [x, .ty U] ∧ KindV K x H T ∧ (U = "list" ∨ U = "str" ∨ U = "int" ∨ U = "bool") ∧ Q (.bl (subT T U)) H
theorem call_isi : CallR X (.builtin "isinstance") (rIsi X.K) := by
  intro pins s σ H xs us Q I r h
  obtain ⟨x, T, U, rfl, hk, hU, q⟩ := h
  obtain ⟨u, v, rfl, ru, rv⟩ := vals2 r
  obtain rfl : v = Value.type U := rv
  have yes : ∀ {T' : String}, T = T' → s.TypeIs u T' → subT T U = true → typeOf (.type U) = pure (.type "type") → isSubtype (.type T') (.type U) = pure true → wpAny (model X.prog X.w) X.A (call (.builtin "isinstance") [u, .type U]) (EP X pins σ Q) X.xe s := fun {T'} e ht hb hty hs =>
    PyProof.Rows.call_isinstance_yes ht hty hs ⟨.bl true, H, I, rfl, by rw [hb] at q; exact q⟩
  have fin : ∀ {b : Bool}, subT T U = b → EP X pins σ Q (.bool b) { s with toks := s.toks + 1 } := fun {b} e => ⟨.bl b, H, I.tok _, rfl, by rw [e] at q; exact q⟩
  cases x with
  | non =>
    obtain rfl : u = Value.none := ru
    obtain rfl : T = "NoneType" := hk
    rcases hU with rfl | rfl | rfl | rfl
    · exact call_isinstance (isinstance_false_none (by decide +kernel) F.isi_meta_list F.sub_NoneType_list) (fin rfl)
    · exact call_isinstance (isinstance_false_none (by decide +kernel) F.isi_meta_str F.sub_NoneType_str) (fin rfl)
    · exact call_isinstance (isinstance_false_none (by decide +kernel) F.isi_meta_int F.sub_NoneType_int) (fin rfl)
    · exact call_isinstance (isinstance_false_none (by decide +kernel) F.isi_meta_bool F.sub_NoneType_bool) (fin rfl)
  | bl b =>
    obtain rfl : u = Value.bool b := ru
    obtain rfl : T = "bool" := hk
    rcases hU with rfl | rfl | rfl | rfl
    · exact call_isinstance (isinstance_false_bool (by decide +kernel) F.isi_meta_list F.sub_bool_list) (fin rfl)
    · exact call_isinstance (isinstance_false_bool (by decide +kernel) F.isi_meta_str F.sub_bool_str) (fin rfl)
    · exact yes rfl (PySem.typeIs_bool s b) rfl F.isi_meta_int F.sub_bool_int
    · exact yes rfl (PySem.typeIs_bool s b) rfl F.isi_meta_bool F.sub_bool_bool
  | int i =>
    obtain ⟨t, rfl⟩ := ru
    obtain rfl : T = "int" := hk
    rcases hU with rfl | rfl | rfl | rfl
    · exact call_isinstance (isinstance_false_int (by decide +kernel) F.isi_meta_list F.sub_int_list) (fin rfl)
    · exact call_isinstance (isinstance_false_int (by decide +kernel) F.isi_meta_str F.sub_int_str) (fin rfl)
    · exact yes rfl (typeIs_int s i t) rfl F.isi_meta_int F.sub_int_int
    · exact call_isinstance (isinstance_false_int (by decide +kernel) F.isi_meta_bool F.sub_int_bool) (fin rfl)
  | str z =>
    obtain ⟨t, rfl⟩ := ru
    obtain rfl : T = "str" := hk
    rcases hU with rfl | rfl | rfl | rfl
    · exact call_isinstance (isinstance_false_str (by decide +kernel) F.isi_meta_list F.sub_str_list) (fin rfl)
    · exact yes rfl (typeIs_str s z t) rfl F.isi_meta_str F.sub_str_str
    · exact call_isinstance (isinstance_false_str (by decide +kernel) F.isi_meta_int F.sub_str_int) (fin rfl)
    · exact call_isinstance (isinstance_false_str (by decide +kernel) F.isi_meta_bool F.sub_str_bool) (fin rfl)
  | ref a =>
    obtain rfl : u = Value.ref a := ru
    rcases hk with ⟨rfl, zs, hq⟩ | ⟨rfl, zs, hq⟩ | ⟨rfl, kvs, hq⟩
    · obtain ⟨its, rv, pl, hz⟩ := I.list hq
      obtain ⟨o, e, c, _⟩ := pl.isList
      rcases hU with rfl | rfl | rfl | rfl
      · exact yes rfl ⟨o, e, c⟩ rfl F.isi_meta_list F.sub_list_list
      · exact call_isinstance (isinstance_false_list (by decide +kernel) F.isi_meta_str F.sub_list_str) ⟨⟨o, e, c⟩, fin rfl⟩
      · exact call_isinstance (isinstance_false_list (by decide +kernel) F.isi_meta_int F.sub_list_int) ⟨⟨o, e, c⟩, fin rfl⟩
      · exact call_isinstance (isinstance_false_list (by decide +kernel) F.isi_meta_bool F.sub_list_bool) ⟨⟨o, e, c⟩, fin rfl⟩
    · obtain ⟨its, rv, pt, hz⟩ := I.tuple hq
      obtain ⟨o, e, c⟩ : s.TypeIs (.ref a) "tuple" := pt.typeIs
      rcases hU with rfl | rfl | rfl | rfl
      · exact call_isinstance (isinstance_false_tuple (by decide +kernel) F.isi_meta_list F.sub_tuple_list) ⟨⟨o, e, c⟩, fin rfl⟩
      · exact call_isinstance (isinstance_false_tuple (by decide +kernel) F.isi_meta_str F.sub_tuple_str) ⟨⟨o, e, c⟩, fin rfl⟩
      · exact call_isinstance (isinstance_false_tuple (by decide +kernel) F.isi_meta_int F.sub_tuple_int) ⟨⟨o, e, c⟩, fin rfl⟩
      · exact call_isinstance (isinstance_false_tuple (by decide +kernel) F.isi_meta_bool F.sub_tuple_bool) ⟨⟨o, e, c⟩, fin rfl⟩
    · obtain ⟨o, e, c⟩ : s.TypeIs (.ref a) "dict" := dict_typeIs I (DGet.k (k := Sum.inl 0) hq)
      rcases hU with rfl | rfl | rfl | rfl
      · exact call_isinstance (isinstance_false_dict (by decide +kernel) F.isi_meta_list F.sub_dict_list) ⟨⟨o, e, c⟩, fin rfl⟩
      · exact call_isinstance (isinstance_false_dict (by decide +kernel) F.isi_meta_str F.sub_dict_str) ⟨⟨o, e, c⟩, fin rfl⟩
      · exact call_isinstance (isinstance_false_dict (by decide +kernel) F.isi_meta_int F.sub_dict_int) ⟨⟨o, e, c⟩, fin rfl⟩
      · exact call_isinstance (isinstance_false_dict (by decide +kernel) F.isi_meta_bool F.sub_dict_bool) ⟨⟨o, e, c⟩, fin rfl⟩
  | byt b => exact absurd hk id
  | flt b => exact absurd hk id
  | ty n => exact absurd hk id

/-- x.count(y) -/
theorem mt_count : MtR X "str.count" (fun x xs H Q => ∃ z y, x = .str z ∧ xs = [.str y] ∧ Q (.int (Builtin.Str.occurrences z y 0 z.length (z.length + 1)).length) H) := by
  intro pins s σ H x xs v us Q I rx rs h
  obtain ⟨z, y, rfl, rfl, q⟩ := h
  obtain ⟨t, rfl⟩ := rx
  obtain ⟨u, rfl, ru⟩ := vals1 rs
  obtain ⟨t', rfl⟩ := ru
  exact SC.count ⟨.int _, H, I.tok _, ⟨_, rfl⟩, q⟩
/-- x.join(texts) -/
theorem mt_join : MtR X "str.join" (fun x xs H Q => ∃ (z : Str) (p : Addr) (ys : List Str), x = .str z ∧ xs = [.ref p] ∧ SqL X.K H p (ys.map V.str) ∧ (ys.map (·.length)).sum + ys.length * z.length ≤ 16777216 ∧ Q (.str (Txt.join z ys)) H) := by
  intro pins s σ H x xs v us Q I rx rs h
  obtain ⟨z, p, ys, rfl, rfl, hq, hz, q⟩ := h
  obtain ⟨t, rfl⟩ := rx
  obtain ⟨u, rfl, ru⟩ := vals1 rs
  obtain rfl : u = Value.ref p := ru
  obtain ⟨its, rv, pl, _⟩ := I.list hq
  exact join_list pl.isList (by simpa using strs_of rv) hz fun t' k => ⟨.str _, H, I.tok _, ⟨_, rfl⟩, q⟩

theorem pick_list {α : Type} (l : List α) (i : Nat) : ∀ k : Nat, ((List.range k).map fun m => i + m).filterMap (l[·]?) = (l.drop i).take k
  | 0 => by simp
  | k + 1 => by
    rw [List.range_succ, List.map_append, List.filterMap_append, pick_list l i k, List.take_add_one, List.getElem?_drop]
    cases e : l[i + k]? <;> simp [e]
/-- x[lo:hi] of a text -/
def cutS (x : Str) (lo hi : Option Int) : Str := ⟨((x.cps.toList.drop (HT.sIx x.length 0 lo)).take (HT.sIx x.length x.length hi - HT.sIx x.length 0 lo)).toArray⟩
def rSlS : V → Option Int → Option Int → Hp → VK → Prop := fun x lo hi H Q => ∃ z, x = .str z ∧ z.length ≤ sizeLine ∧ Q (.str (cutS z lo hi)) H
end
end L2
namespace L2
open PySem PySem.Spec PyProof.Rows
section
variable {X : Cx}
def eqVs : List V → List V → Bool
  | [], [] => true
  | x :: xs, y :: ys => eqV x y && eqVs xs ys
  | _, _ => false
theorem eqVs_len : ∀ {xs ys : List V}, xs.length ≠ ys.length → eqVs xs ys = false
  | [], [], h => absurd rfl h
  | [], _ :: _, _ => rfl
  | _ :: _, [], _ => rfl
  | x :: xs, y :: ys, h => by
    unfold eqVs
    rw [eqVs_len (xs := xs) (ys := ys) (fun e => h (by simp [e])), Bool.and_false]
theorem eqVs_range : ∀ {xs ys : List V}, xs.length = ys.length → (List.range xs.length).all (fun i => eqV (xs.getD i .non) (ys.getD i .non)) = eqVs xs ys
  | [], [], _ => rfl
  | x :: xs, y :: ys, h => by
    have ih := eqVs_range (xs := xs) (ys := ys) (by simpa using h)
    rw [List.length_cons, List.range_succ_eq_map, List.all_cons, List.all_map]
    unfold eqVs
    rw [← ih]
    rfl
  | [], _ :: _, h => by simp at h
  | _ :: _, [], h => by simp at h
theorem flat_at {xs : List V} (h : xs.all flatV = true) {i : Nat} {x : V} (e : xs[i]? = some x) : flatV x = true := List.all_eq_true.mp h x (List.mem_of_getElem? e)
theorem eq_items {A : Around} {s : Shared} {xs ys : List V} {us ws : List Value} (r : Vals xs us) (q : Vals ys ws) (fx : xs.all flatV = true) (fy : ys.all flatV = true) (j : Nat) (h1 : j < us.toArray.size) (h2 : j < ws.toArray.size) :
    SeqAt.EqAt A s us.toArray[j] ws.toArray[j] (eqV (xs.getD j .non) (ys.getD j .non)) := by
  obtain ⟨x, ex, rx⟩ := vals_get r (i := j) (u := us.toArray[j]) (by simp at h1; simp [h1])
  obtain ⟨y, ey, ry⟩ := vals_get q (i := j) (u := ws.toArray[j]) (by simp at h2; simp [h2])
  have e1 : xs.getD j .non = x := by simp [ex]
  have e2 : ys.getD j .non = y := by simp [ey]
  rw [e1, e2]
  exact eqAt_V rx ry (flat_at fx ex) (flat_at fy ey)
def rEqL (K : PySem.W.Frag) (neg : Bool) : R2 := fun x y H Q => ∃ a b xs ys, x = .ref a ∧ y = .ref b ∧ SqL K H a xs ∧ SqL K H b ys ∧ xs.all flatV = true ∧ ys.all flatV = true ∧ Q (.bl (if neg then !eqVs xs ys else eqVs xs ys)) H
theorem op_eqL (hu : X.A.units < cLine) : OpR X (compareOp .Eq) (rEqL X.K false) := by
  intro pins s σ H x y v u Q I rx ry h
  obtain ⟨a, b, xs, ys, rfl, rfl, h1, h2, f1, f2, q⟩ := h
  obtain rfl : v = Value.ref a := rx
  obtain rfl : u = Value.ref b := ry
  obtain ⟨us, r1, p1, _⟩ := I.list h1
  obtain ⟨ws, r2, p2, _⟩ := I.list h2
  have l1 := r1.length
  have l2 := r2.length
  by_cases hl : xs.length = ys.length
  · refine SeqAt.eq_listAt p1.isList p2.isList (by simp; omega) hu (eq_items r1 r2 f1 f2) ?_
    rw [List.size_toArray, ← l1, eqVs_range hl]
    exact ⟨.bl _, H, I, rfl, q⟩
  · refine SeqAt.eq_list_lengthsAt p1.isList p2.isList (by simp; omega) hu ?_
    have q' : Q (.bl false) H := by have := eqVs_len hl; simpa [this] using q
    exact ⟨.bl _, H, I, rfl, q'⟩
/-- the items of xs[lo:hi:st] -/
def pickV (xs : List V) (lo hi st : Option Int) : List V := (sliceRange (sliceBounds lo hi st xs.length).1 (sliceBounds lo hi st xs.length).2.1 (sliceBounds lo hi st xs.length).2.2).filterMap (xs[·]?)
def tSl3 (K : PySem.W.Frag) (te : TE) (tl th tk : TO) : TE := fun σ H Q => te σ H fun x H1 => tl σ H1 fun l H2 => th σ H2 fun u H3 => tk σ H3 fun k H4 => k ≠ some 0 ∧ ∃ a xs, x = .ref a ∧ SqL K H4 a xs ∧ ∀ p, H4 p = none → Q (.ref p) (upd H4 p (.lst (pickV xs l u k)))
def RngO (lo hi st : Int) (r : Addr) : HO := .ext fun h => ∃ t u v, IsRange h r lo hi st t u v
theorem call_list_rng (hc : X.calm = true) : CallR X (.type "list") (fun xs H Q => ∃ r a b c n, xs = [.ref r] ∧ H r = some (RngO a b c r) ∧ Builtin.Range.small a b c = true ∧ Builtin.Range.rangeSize a b c = (n : Nat) ∧ n ≤ 1000 ∧
    ∀ l, H l = none → Q (.ref l) (upd H l (.lst ((rangeInts a c n).map V.int)))) := by
  intro pins s σ H xs us Q I r h
  obtain ⟨p, a, b, c, n, rfl, hp, hs, hn, hz, q⟩ := h
  obtain ⟨u, rfl, ru⟩ := vals1 r
  obtain rfl : u = Value.ref p := ru
  obtain ⟨⟨t, u, v, hr⟩, _⟩ := I.hok p _ hp
  refine call_list_range (I.ok.hd hc) hr hs hn (Nat.le_trans hz (by decide)) fun h' tk acc c' k hS hacc => ?_
  obtain ⟨hl, hi⟩ := hacc
  refine ⟨.ref s.heap.objs.size, _, I.laid (t' := tk) (o := .lst ((rangeInts a c n).map V.int)) k (Nat.le_refl _) ⟨by rw [List.length_map, rangeInts_length]; exact Nat.le_trans hz (by decide), acc.toList, c', ?_, by simpa using hS⟩, rfl, q _ (I.hok.fresh (Nat.le_refl _))⟩
  have key : ∀ (m : Nat) (ys : List Value), ys.length = m → ∀ k0 : Nat, (∀ (j : Nat) (v : Value), ys[j]? = some v → ∃ t, v = Value.int (a + ((k0 + j : Nat) : Int) * c) t) → Vals (((List.range m).map fun i => a + ((k0 + i : Nat) : Int) * c).map V.int) ys := by
    intro m
    induction m with
    | zero => intro ys hy k0 _; rw [List.length_eq_zero_iff.mp hy]; exact .nil
    | succ m ih =>
      intro ys hy k0 hv
      cases ys with
      | nil => simp at hy
      | cons y ys =>
        rw [List.range_succ_eq_map, List.map_cons, List.map_cons, List.map_map]
        refine .cons ?_ ?_
        · obtain ⟨t, e⟩ := hv 0 y rfl
          exact ⟨t, by simpa using e⟩
        · have := ih ys (by simpa using hy) (k0 + 1) (fun j v e => by
            obtain ⟨t, e2⟩ := hv (j + 1) v (by simpa using e)
            exact ⟨t, by rw [e2]; congr 3; omega⟩)
          rw [List.map_map] at this ⊢
          have e : ((V.int ∘ fun i : Nat => a + ((k0 + i : Nat) : Int) * c) ∘ Nat.succ) = (V.int ∘ fun i : Nat => a + ((k0 + 1 + i : Nat) : Int) * c) := by
            funext i
            show V.int (a + ((k0 + (i + 1) : Nat) : Int) * c) = V.int (a + ((k0 + 1 + i : Nat) : Int) * c)
            have e2 : k0 + (i + 1) = k0 + 1 + i := by omega
            rw [e2]
          rw [e]
          exact this
  have := key n acc.toList (by simpa using hl) 0 (fun j v e => by
    obtain ⟨t, e2⟩ := hi j v (by simpa using e)
    exact ⟨t, by rw [e2]; simp⟩)
  simpa [rangeInts] using this
end
end L2
namespace L2
open PySem PySem.Spec PyProof.Rows
section
variable {X : Cx}
def SetO (P : Program) (w : World) (ns : List Int) (D : Addr) : HO := .ext fun h => Wa.SetAt P w h D ns
end
end L2
namespace L2
open PySem PySem.Spec PyProof.Rows
theorem Same.upd {H H2 : Hp} {D : Addr} {o : HO} (s : Same H H2) (h : H2 D = none) : Same H (upd H2 D o) := fun b u e => by
  rw [upd_ne (ne_of_none (s b u e) h)]
  exact s b u e
theorem Same.tup {K : PySem.W.Frag} {H H' : Hp} {a : Addr} {xs : List V} (e : Same H H') (h : SqT K H a xs) : SqT K H' a xs := by
  rcases h with (h | ⟨o, h⟩) | h
  · exact .inl (.inl (e _ _ h))
  · exact .inl (.inr ⟨o, e _ _ h⟩)
  · exact .inr h
theorem fm_len {α β : Type} (f : α → Option β) (l : List α) : (l.filterMap f).length ≤ l.length := List.length_filterMap_le f l
theorem fm_congr {α β : Type} {f g : α → Option β} : ∀ {l : List α}, (∀ x ∈ l, f x = g x) → l.filterMap f = l.filterMap g
  | [], _ => rfl
  | x :: l, h => by rw [List.filterMap_cons, List.filterMap_cons, h x List.mem_cons_self, fm_congr fun y hy => h y (List.mem_cons_of_mem _ hy)]
/-- what one turn gathers -/
def accO (acc : List V) : Option V → List V
  | some v => acc ++ [v]
  | none => acc
theorem accO_fm {f : Nat → Option V} {i : Nat} : accO ((List.range i).filterMap f) (f i) = (List.range (i + 1)).filterMap f := by
  rw [List.range_succ, List.filterMap_append]
  cases e : f i <;> simp [accO, e]
theorem fm_list {xs : List V} {f : V → Option V} : (List.range xs.length).filterMap (fun i => (xs[i]?).bind f) = xs.filterMap f := by
  have e : xs.filterMap f = ((List.range xs.length).filterMap (xs[·]?)).filterMap f := by
    have := pick_list xs 0 xs.length
    simp only [Nat.zero_add, List.drop_zero, List.take_length, List.map_id_fun', id_eq] at this
    rw [this]
  rw [e, List.filterMap_filterMap]
/-- the block's test and element, at a state, with what they gather -/
def Gv (tc : TT) (te : TE) (σ2 : St) (H1 : Hp) (f : Option V) : Prop :=
  ∀ (H : Hp) (k : Option V → Hp → Prop), Same H1 H → (∀ H', Same H H' → k f H') → tc σ2 H fun b H3 => if b = true then te σ2 H3 fun v H4 => k (some v) H4 else k none H3
section
variable {K : PySem.W.Frag} {lσ : St} {g : TG} {tc : TT} {te : TE} {H1 : Hp} {Q : VK}
theorem compW_of {J : It} {n : Nat} (f : Nat → Option V) (hz : n ≤ sizeLine) (hgo : ∀ i H, Same H1 H → i < n → J.go i H) (hst : ∀ H, Same H1 H → J.stop n H)
    (hs : ∀ i, i < n → ∀ (H : Hp) (k : Option V → Hp → Prop), Same H1 H → (∀ H', Same H H' → k (f i) H') → ∀ x H', J.yld i H x H' → g x lσ H' fun σ2 H2 => tc σ2 H2 fun b H3 => if b = true then te σ2 H3 fun v H4 => k (some v) H4 else k none H3)
    (hd : ∀ D H', Same H1 H' → H1 D = none → H' D = some (.lst ((List.range n).filterMap f)) → Q (.ref D) H') :
    CompV J lσ g tc te H1 Q := by
  refine ⟨fun i m acc H => m = n - i ∧ i ≤ n ∧ Same H1 H ∧ acc = (List.range i).filterMap f, ⟨n, by simp, Nat.zero_le _, Same.refl _, rfl⟩, ?_⟩
  rintro i m acc H ⟨rfl, hi, s, rfl⟩
  by_cases hlt : i < n
  · refine .inr ⟨hgo i H s hlt, ?_, fun acc' H' => Same H1 H' ∧ acc' = (List.range (i + 1)).filterMap f, fun acc' H' ⟨s', e⟩ => ⟨n - (i + 1), by omega, rfl, hlt, s', e⟩, fun x H' y => ?_⟩
    · have := fm_len f (List.range i)
      rw [List.length_range] at this
      omega
    · exact hs i hlt H (fun o H' => Same H1 H' ∧ accO ((List.range i).filterMap f) o = (List.range (i + 1)).filterMap f) s (fun H' s' => ⟨s.trans s', accO_fm⟩) x H' y
  · have e : i = n := by omega
    subst e
    exact .inl ⟨hst H s, fun D hD => hd D _ (s.upd hD) (s.free hD) upd_same⟩
/-- over a list -/
theorem comp_list {a : Addr} {xs : List V} {i0 : Nat} (f : V → Option V) (hq : SqL K H1 a xs) (hz : xs.length ≤ sizeLine) (hs : ∀ x ∈ xs, Gv tc te (lσ.set i0 (some x)) H1 (f x))
    (hd : ∀ D H', Same H1 H' → H1 D = none → H' D = some (.lst (xs.filterMap f)) → Q (.ref D) H') : CompV (Itl K a) lσ (gName i0) tc te H1 Q := by
  refine compW_of (n := xs.length) (fun i => (xs[i]?).bind f) hz (fun i H s hi => ⟨xs, xs[i], s.seq hq, by simp [hi]⟩) (fun H s => ⟨xs, s.seq hq, Nat.le_refl _⟩) (fun i hi H k s hk x H' y => ?_) ?_
  · obtain ⟨e, y⟩ := y
    subst e
    have hx := y xs (s.seq hq)
    refine hs x (List.mem_of_getElem? hx) _ k s fun H' s' => ?_
    have := hk H' s'
    rw [hx] at this
    exact this
  · rw [fm_list]; exact hd
/-- over lo, lo + 1, .. -/
theorem comp_range {lo : Int} {n i0 : Nat} (f : Nat → Option V) (hz : n ≤ sizeLine) (hs : ∀ i, i < n → Gv tc te (lσ.set i0 (some (.int (lo + i)))) H1 (f i))
    (hd : ∀ D H', Same H1 H' → H1 D = none → H' D = some (.lst ((List.range n).filterMap f)) → Q (.ref D) H') : CompV (Itr lo n) lσ (gName i0) tc te H1 Q := by
  refine compW_of f hz (fun i H s hi => hi) (fun H s => Nat.le_refl _) (fun i hi H k s hk x H' y => ?_) hd
  obtain ⟨e, y⟩ := y
  subst e y
  exact hs i hi _ k s hk
/-- two names at once -/
abbrev gPair (K : PySem.W.Frag) (i j : Nat) : TG := gTup K 2 (gCons (gName i) (gCons (gName j) gNil))
theorem gPair_of {i j : Nat} {T : Addr} {v w : V} {H : Hp} {Q : St → Hp → Prop} (hT : SqT K H T [v, w]) (h : Q ((lσ.set i (some v)).set j (some w)) H) : gPair K i j (.ref T) lσ H Q :=
  ⟨T, [v, w], rfl, hT, rfl, v, [w], rfl, w, [], rfl, rfl, h⟩
/-- over enumerate(xs) -/
theorem comp_enum {a : Addr} {xs : List V} {i0 j0 : Nat} (f : Nat → Option V) (hq : SqL K H1 a xs) (hz : xs.length ≤ sizeLine) (hs : ∀ (i : Nat) (x : V), xs[i]? = some x → Gv tc te ((lσ.set i0 (some (.int i))).set j0 (some x)) H1 (f i))
    (hd : ∀ D H', Same H1 H' → H1 D = none → H' D = some (.lst ((List.range xs.length).filterMap f)) → Q (.ref D) H') : CompV (Ite K a) lσ (gPair K i0 j0) tc te H1 Q := by
  refine compW_of f hz (fun i H s hi => ⟨xs, xs[i], s.seq hq, by simp [hi]⟩) (fun H s => ⟨xs, s.seq hq, Nat.le_refl _⟩) (fun i hi H k s hk x H' y => ?_) hd
  obtain ⟨T, x, rfl, hT, rfl, hx⟩ := y
  have s2 : Same H (upd H T (.tup [.int i, x])) := (Same.refl H).upd hT
  exact gPair_of (.of upd_same) (hs i x (hx xs (s.seq hq)) _ k (s.trans s2) fun H' s' => hk H' (s2.trans s'))
/-- no test -/
theorem Gv.map {te : TE} {σ2 : St} {v : V} (h : ∀ (H : Hp) (k : V → Hp → Prop), Same H1 H → (∀ H', Same H H' → k v H') → te σ2 H k) : Gv tIfs0 te σ2 H1 (some v) :=
  fun H k s hk => by
    unfold tIfs0
    dsimp only
    rw [if_pos rfl]
    exact h H (fun v H' => k (some v) H') s hk
theorem fm_some {α β : Type} (f : α → β) (l : List α) : l.filterMap (fun x => some (f x)) = l.map f := by
  induction l with
  | nil => rfl
  | cons x l ih => rw [List.filterMap_cons, List.map_cons, ih]
end
def ForW (J : It) (g : TG) (tb : TS) (D : Ends) (σ : St) (H : Hp) : Prop := ∃ W : Nat → Nat → St → Hp → Prop, (∃ m, W 0 m σ H) ∧ ∀ i m σ H, W i m σ H →
  (J.stop i H ∧ D.nx σ H) ∨ (J.go i H ∧ ∃ N : St → Hp → Prop, (∀ σ' H', N σ' H' → ∃ m', m' < m ∧ W (i + 1) m' σ' H') ∧ ∀ x H', J.yld i H x H' → g x σ H' fun σ2 H2 => tb { D with nx := N, ct := N, bk := D.nx } σ2 H2)
section
variable {K : PySem.W.Frag} {g : TG} {tb : TS} {D : Ends} {σ : St} {H : Hp}
theorem for_listW {a : Addr} {xs : List V} (Pv : Nat → St → Hp → Prop) (h0 : Pv 0 σ H) (hl : ∀ i σ H, i ≤ xs.length → Pv i σ H → SqL K H a xs)
    (hs : ∀ i x σ H, xs[i]? = some x → Pv i σ H → g x σ H fun σ2 H2 => tb { D with nx := Pv (i + 1), ct := Pv (i + 1), bk := D.nx } σ2 H2) (hd : ∀ σ H, Pv xs.length σ H → D.nx σ H) : ForW (Itl K a) g tb D σ H := for_list Pv h0 hl hs hd
end
/-- one statement, then the rest -/
theorem seq_cut {t u : TS} {D : Ends} {σ : St} {H : Hp} (Pc : St → Hp → Prop) (h1 : ∀ nx' : St → Hp → Prop, (∀ σ H, Pc σ H → nx' σ H) → t { D with nx := nx' } σ H) (h2 : ∀ σ H, Pc σ H → u D σ H) : tSeq t u D σ H := h1 _ h2
/-- a loop's source, then its turns -/
theorem for_cut {wi : TI} {g : TG} {tb : TS} {D : Ends} {σ : St} {H : Hp} (Pj : It → Hp → Prop) (h1 : ∀ R : It → Hp → Prop, (∀ J H1, Pj J H1 → R J H1) → wi σ H R) (h2 : ∀ J H1, Pj J H1 → ForW J g tb D σ H1) : tFor wi g tb D σ H := h1 _ h2
end L2
namespace L2
open PySem PySem.Spec PyProof.Rows
structure DefC (P : Program) (w : World) (K : PySem.W.Frag) (mg : Str → Option Value) (base : Heap) (k : Nat) (x : Str) (ps : List Str) (sp : Sp) : Prop where
  ex : ∃ f fd, FnOk P w K mg base CX0 k f fd ps sp ∧ mg x = some (.ref f) ∧ PySem.W.keepIn K (.ref f) = true ∧ Binds K fd ps []
section
variable {X : Cx} {k j : Nat} {x : Str} {ps : List Str} {sp : Sp} {e : Expr} {es : List Expr} {t : TA} {p pos : Pos}
theorem pe_callC (C : DefC X.prog X.w X.K X.mg X.base k x ps sp) (hr : Room j X.A) (hg : Gl X x) (ha : PA X (e :: es) t) (hk : k ≤ j := by decide) (hdb : (x == ("__debug__" : Str)) = false := by decide)
    (he : starEach (e :: es) X.env = (false, eval e X.env) :: starEach es X.env := by rfl) (hpl : (backTo pos (starEach es X.env)).any (·.1) = false := by rfl) : PE X (.Call (.Name x p) (e :: es) [] pos) (tCall sp [] E0 t) := by
  obtain ⟨f, fd, F, hm, hkp, hb⟩ := C.ex
  exact pe_call (F.mono hk) hr hg hm hkp hb .nil pass0 ha hdb he hpl
end

theorem bt_len : bootBuiltins "len" = some (.builtin "len") := by decide +kernel
theorem bt_all : bootBuiltins "all" = some (.builtin "all") := by decide +kernel
theorem bt_isinstance : bootBuiltins "isinstance" = some (.builtin "isinstance") := by decide +kernel
theorem bt_list : bootBuiltins "list" = some (.type "list") := by decide +kernel
theorem bt_str : bootBuiltins "str" = some (.type "str") := by decide +kernel
theorem bt_int : bootBuiltins "int" = some (.type "int") := by decide +kernel
theorem bt_bool : bootBuiltins "bool" = some (.type "bool") := by decide +kernel
theorem bt_range : bootBuiltins "range" = some (.type "range") := by decide +kernel
/-- the names that the text does not bind -/
structure Nm (mg : Str → Option Value) : Prop where
  n_len : mg "len" = none
  n_sum : mg "sum" = none
  n_all : mg "all" = none
  n_any : mg "any" = none
  n_sorted : mg "sorted" = none
  n_isinstance : mg "isinstance" = none
  n_list : mg "list" = none
  n_str : mg "str" = none
  n_int : mg "int" = none
  n_bool : mg "bool" = none
  n_set : mg "set" = none
  n_range : mg "range" = none
  n_enumerate : mg "enumerate" = none
  n_zip : mg "zip" = none
theorem iteTb {c : Bool} {A B : Prop} (hc : c = true) (h : A) : if c = true then A else B := by rw [if_pos hc]; exact h
theorem iteFb {c : Bool} {A B : Prop} (hc : c = false) (h : B) : if c = true then A else B := by rw [if_neg (by rw [hc]; exact Bool.false_ne_true)]; exact h
theorem ite_cases {c : Bool} {A B : Prop} (h1 : c = true → A) (h2 : c = false → B) : if c = true then A else B := by
  cases c with
  | true => exact iteTb rfl (h1 rfl)
  | false => exact iteFb rfl (h2 rfl)
end L2
namespace L2
open PySem PySem.Spec PyProof.Rows
/-- two readings of one expression -/
theorem PE.or {X : Cx} {e : Expr} {t u : TE} (h1 : PE X e t) (h2 : PE X e u) : PE X e (fun σ H Q => t σ H Q ∨ u σ H Q) := by
  intro pins s σ H Q I q
  rcases q with q | q
  · exact h1 pins s σ H Q I q
  · exact h2 pins s σ H Q I q
/-- what the walk asks of a class whose objects are asked by isinstance -/
structure Kl (K : PySem.W.Frag) (C : Addr) : Prop where
  cl : Cls K C
  ha : PySem.W.findIn K (.ref C) "__class__" = some (some (.builtin "object.__class__"))
  hn : PySem.W.specialIn K (.builtin "object.__class__") "__get__" = some (some (.builtin "getset_descriptor.__get__"))
  htk : PySem.W.takesIn K (.builtin "object.__class__") = some true
  hm : PySem.W.mroIn K C (.type "object") = some true
theorem Kl.ty {K : PySem.W.Frag} {H : Hp} {C a dx : Addr} {fs : List (Str × V)} (k : Kl K C) (e : H a = some (.ins C dx fs)) : TyOf K H (.ref a) (.ref C) := .ins e k.cl k.ha k.hn k.htk k.hm
section
variable {X : Cx}
def rIsiO (K : PySem.W.Frag) : List V → Hp → VK → Prop := fun xs H Q => ∃ x C t b, xs = [x, .ref C] ∧ TyOf K H x t ∧ PySem.W.kitOne K t (.ref C) = some b ∧ Q (.bl b) H
end
structure MetC (P : Program) (w : World) (K : PySem.W.Frag) (mg : Str → Option Value) (base : Heap) (k : Nat) (C : Addr) (m : Str) (ps : List Str) (sp : Sp) : Prop where
  ex : ∃ f fd, FnOk P w K mg base CX0 k f fd ps sp ∧ Meth K C m f ∧ Binds K fd ps []
  cl : Cls K C
structure MakC (P : Program) (w : World) (K : PySem.W.Frag) (mg : Str → Option Value) (base : Heap) (k : Nat) (x : Str) (C : Addr) (ps : List Str) (sp : Sp) : Prop where
  ex : ∃ f fd, FnOk P w K mg base CX0 k f fd ps sp ∧ Mk K C f ∧ Binds K fd ps []
  mg : mg x = some (.ref C)
section
variable {X : Cx} {k j : Nat} {x m : Str} {C : Addr} {ps : List Str} {sp : Sp} {o e : Expr} {es : List Expr} {ta : TE} {t : TA} {p pos apos : Pos}
end
end L2
namespace L2
open PySem PySem.Spec PyProof.Rows
/-- a zip object's parts lie apart -/
structure ZA (z TI TO i j : Addr) (fi fj : List Addr) : Prop where
  tz : TI ≠ z
  oz : TO ≠ z
  tto : TI ≠ TO
  mi : i ∈ fi
  mj : j ∈ fj
  zi : z ∉ fi
  zj : z ∉ fj
  oi : TO ∉ fi
  oj : TO ∉ fj
  ti : TI ≠ i
  tj : TI ≠ j
  ij : i ∉ fj
  ji : j ∉ fi
section
variable {P : Program} {w : World} {A : Around} {E : Value → Shared → Prop} {s : Shared} {z TI TO i j : Addr} {fi fj : List Addr} {n m k l : Nat} {Pi Pj : Nat → Value → Prop} {Si Sj : Nat → Heap → Prop} {a b : Value}
theorem ZA.iz (Z : ZA z TI TO i j fi fj) : i ≠ z := fun q => Z.zi (q ▸ Z.mi)
theorem ZA.jz (Z : ZA z TI TO i j fi fj) : j ≠ z := fun q => Z.zj (q ▸ Z.mj)
theorem ZA.ne (Z : ZA z TI TO i j fi fj) : i ≠ j := fun q => Z.ij (q ▸ Z.mj)
end
inductive ZS where
  | l (a : Addr)
  | t (x : Str)
def ZS.val : ZS → V
  | .l a => .ref a
  | .t x => .str x
/-- the item at i -/
def ZS.at' (K : PySem.W.Frag) (S : ZS) (i : Nat) (H : Hp) (v : V) : Prop :=
  match S with
  | .l a => ∃ xs, SqL K H a xs ∧ xs[i]? = some v
  | .t x => ∃ c, x.cps.toList[i]? = some c ∧ v = .str ⟨#[c]⟩
/-- there are i items -/
def ZS.len (K : PySem.W.Frag) (S : ZS) (i : Nat) (H : Hp) : Prop :=
  match S with
  | .l a => ∃ xs, SqL K H a xs ∧ xs.length = i
  | .t x => x.length = i
/-- its iterator stands at i -/
def ZS.st (S : ZS) (it : Addr) (i : Nat) (h : Heap) : Prop :=
  match S with
  | .l a => h.IsListIter it a i
  | .t x => ∃ u, h.IsStrIter it (strIterType x) x u i
theorem ZS.st_obj {S : ZS} {it : Addr} {i : Nat} {h : Heap} (q : S.st it i h) : ∃ o, h.get? it = some o ∧ (∀ v, o.data ≠ .cell v) ∧ o.cls ≠ .type "list" := by
  match S with
  | .l a =>
    obtain ⟨o, e, c, d⟩ := q
    exact ⟨o, e, fun v z => by (rw [d] at z; cases z), by (rw [c]; decide)⟩
  | .t x =>
    obtain ⟨u, o, e, c, d⟩ := q
    refine ⟨o, e, fun v z => by (rw [d] at z; cases z), ?_⟩
    rw [c]
    unfold strIterType
    split <;> decide
/-- how a source draws -/
structure ZD (P : Program) (w : World) (S : ZS) (it : Addr) (h0 : Heap) (n : Nat) (Pi : Nat → Value → Prop) (Si : Nat → Heap → Prop) (fi : List Addr) : Prop where
  dr : ∀ A : Around, A.handled = none → Draws P w A it fi n Pi Si
  st : ∀ k h, Si k h → S.st it k h
  mi : it ∈ fi
  fp : ∀ b ∈ fi, b = it ∨ ∃ its, h0.IsList b its
theorem ZS.drawsT {P : Program} {w : World} {x : Str} {it : Addr} {k : Nat} {h0 : Heap} (q : (ZS.t x).st it k h0) :
    ∃ Si, ZD P w (.t x) it h0 x.length (fun i v => ∃ c u, x.cps[i]? = some c ∧ v = .str ⟨#[c]⟩ u) Si [it] ∧ Si k h0 := by
  obtain ⟨u, q⟩ := q
  cases ha : x.cps.all (· < 128) with
  | true =>
    have e : strIterType x = "str_ascii_iterator" := by unfold strIterType; rw [ha]; rfl
    rw [e] at q
    exact ⟨_, ⟨fun A hA => Draws.strAscii hA it x u, fun k h z => ⟨u, by rw [e]; exact z⟩, by simp, fun b hb => .inl (by simpa using hb)⟩, q⟩
  | false =>
    have e : strIterType x = "str_iterator" := by unfold strIterType; rw [ha]; rfl
    rw [e] at q
    exact ⟨_, ⟨fun A hA => Draws.strWide hA it x u, fun k h z => ⟨u, by rw [e]; exact z⟩, by simp, fun b hb => .inl (by simpa using hb)⟩, q⟩
theorem ZS.drawsL {P : Program} {w : World} {a it : Addr} {k : Nat} {h0 : Heap} {its : Array Value} (q : (ZS.l a).st it k h0) (hl : h0.IsList a its) :
    ZD P w (.l a) it h0 its.size (fun i v => its[i]? = some v) (fun i h => h.IsListIter it a i ∧ h.IsList a its) [it, a] := by
  have ne : a ≠ it := fun z => by
    obtain ⟨o, e, c, _⟩ := q
    obtain ⟨o2, e2, c2, _⟩ := hl
    rw [z, e] at e2
    cases e2
    rw [c] at c2
    exact absurd c2 (by decide)
  exact ⟨fun A hA => Draws.list hA it a ne its, fun k h z => z.1, by simp, fun b hb => by
    rcases List.mem_cons.mp hb with z | z
    · exact .inl z
    · exact .inr ⟨its, by rw [List.mem_singleton.mp z]; exact hl⟩⟩
section
variable {X : Cx} {pins : List (Addr × Obj)} {σ : St} {H : Hp} {s : Shared} {S : ZS} {it : Addr} {k : Nat} {x : V}
theorem ZS.item (I : Inv X pins σ H s) (q : S.st it k s.heap) (h : S.at' X.K k H x) : ∃ n Pi Si fi, ZD X.prog X.w S it s.heap n Pi Si fi ∧ Si k s.heap ∧ k < n ∧ ∀ u, Pi k u → RelV x u := by
  match S with
  | .l a =>
    obtain ⟨xs, hq, hx⟩ := h
    obtain ⟨its, rv, p, hz⟩ := I.list hq
    obtain ⟨u, hu, ru⟩ := rv.get hx
    refine ⟨_, _, _, _, ZS.drawsL q p.isList, ⟨q, p.isList⟩, ?_, fun v hv => ?_⟩
    · have := (List.getElem?_eq_some_iff.mp hu).1
      simpa using this
    · have : v = u := by
        have e : its[k]? = some v := by simpa using hv
        rw [hu] at e
        exact (Option.some.inj e).symm
      rw [this]
      exact ru
  | .t z =>
    obtain ⟨c, hc, rfl⟩ := h
    obtain ⟨Si, D, qk⟩ := ZS.drawsT (P := X.prog) (w := X.w) q
    refine ⟨_, _, _, _, D, qk, ?_, fun v hv => ?_⟩
    · have := (List.getElem?_eq_some_iff.mp hc).1
      show k < z.cps.size
      simpa using this
    · obtain ⟨c', u, e, rfl⟩ := hv
      have : c' = c := by
        have e' : z.cps.toList[k]? = some c' := by simpa using e
        rw [hc] at e'
        exact (Option.some.inj e').symm
      rw [this]
      exact ⟨u, rfl⟩
theorem ZS.stop (I : Inv X pins σ H s) (q : S.st it k s.heap) (h : S.len X.K k H) : ∃ Pi Si fi, ZD X.prog X.w S it s.heap k Pi Si fi ∧ Si k s.heap := by
  match S with
  | .l a =>
    obtain ⟨xs, hq, hx⟩ := h
    obtain ⟨its, rv, p, hz⟩ := I.list hq
    have e : its.toArray.size = k := by
      have := rv.length
      simp
      omega
    have D := ZS.drawsL (P := X.prog) (w := X.w) q p.isList
    rw [e] at D
    exact ⟨_, _, _, D, q, p.isList⟩
  | .t z =>
    obtain ⟨Si, D, qk⟩ := ZS.drawsT (P := X.prog) (w := X.w) q
    have e : z.length = k := h
    rw [e] at D
    exact ⟨_, _, _, D, qk⟩
theorem ZS.kept {m : Nat} (I : Inv X pins σ H s) (q : S.st it k s.heap) (h : S.len X.K m H) : ∃ n Pi Si fi, ZD X.prog X.w S it s.heap n Pi Si fi := by
  match S with
  | .l a =>
    obtain ⟨xs, hq, hx⟩ := h
    obtain ⟨its, rv, p, hz⟩ := I.list hq
    exact ⟨_, _, _, _, ZS.drawsL q p.isList⟩
  | .t z =>
    obtain ⟨Si, D, qk⟩ := ZS.drawsT (P := X.prog) (w := X.w) q
    exact ⟨_, _, _, _, D⟩
end
/-- the pairs of S and R -/
def Itp (K : PySem.W.Frag) (S R : ZS) : It :=
  ⟨fun i H => ∃ x y, S.at' K i H x ∧ R.at' K i H y,
    fun i H z H' => ∃ T x y, z = .ref T ∧ H T = none ∧ H' = upd H T (.tup [x, y]) ∧ (∀ x', S.at' K i H x' → x = x') ∧ ∀ y', R.at' K i H y' → y = y',
    fun i H => (S.len K i H ∧ ∃ m, R.len K m H) ∨ ∃ x, S.at' K i H x ∧ R.len K i H⟩
/-- where the five objects stand -/
def ZSt (S R : ZS) (z TI TO i1 i2 : Addr) (k : Nat) (h : Heap) : Prop :=
  IsZip h z TI TO .none ∧ IsPair h TI (.ref i1) (.ref i2) ∧ (∃ x y, IsPair h TO x y) ∧ S.st i1 k h ∧ R.st i2 k h
theorem ZSt.obj {S R : ZS} {z TI TO i1 i2 : Addr} {k : Nat} {h : Heap} (q : ZSt S R z TI TO i1 i2 k h) : ∀ c ∈ [z, TI, TO, i1, i2], ∃ o, h.get? c = some o ∧ (∀ v, o.data ≠ .cell v) ∧ o.cls ≠ .type "list" := fun c hc => by
  obtain ⟨q1, q2, ⟨x, y, q3⟩, q4, q5⟩ := q
  simp only [List.mem_cons, List.mem_nil_iff, or_false] at hc
  rcases hc with e | e | e | e | e <;> subst e
  · exact ⟨_, q1, (fun v q => nomatch q), (show Value.type "zip" ≠ .type "list" by decide)⟩
  · exact ⟨_, q2, (fun v q => nomatch q), (show Value.type "tuple" ≠ .type "list" by decide)⟩
  · exact ⟨_, q3, (fun v q => nomatch q), (show Value.type "tuple" ≠ .type "list" by decide)⟩
  · exact ZS.st_obj q4
  · exact ZS.st_obj q5
structure ZN (z TI TO i1 i2 : Addr) : Prop where
  tz : TI ≠ z
  oz : TO ≠ z
  iz : i1 ≠ z
  jz : i2 ≠ z
  tto : TI ≠ TO
  ti : TI ≠ i1
  tj : TI ≠ i2
  oi : TO ≠ i1
  oj : TO ≠ i2
  ij : i1 ≠ i2
theorem ZSt.apart {P : Program} {w : World} {S R : ZS} {z TI TO i1 i2 : Addr} {k n m : Nat} {h : Heap} {Pi Pj Si Sj fi fj} (N : ZN z TI TO i1 i2) (q : ZSt S R z TI TO i1 i2 k h) (Di : ZD P w S i1 h n Pi Si fi) (Dj : ZD P w R i2 h m Pj Sj fj) : ZA z TI TO i1 i2 fi fj := by
  have no : ∀ c ∈ [z, TI, TO, i1, i2], ∀ its, ¬ h.IsList c its := fun c hc its ⟨o, e, cl, _⟩ => by
    obtain ⟨o2, e2, _, n2⟩ := q.obj c hc
    rw [e] at e2
    cases e2
    exact n2 cl
  have out : ∀ {S : ZS} {it : Addr} {n Pi Si fi}, ZD P w S it h n Pi Si fi → ∀ c ∈ [z, TI, TO, i1, i2], c ≠ it → c ∉ fi := fun D c hc hn hm => by
    rcases D.fp c hm with e | ⟨its, e⟩
    · exact hn e
    · exact no c hc its e
  exact ⟨N.tz, N.oz, N.tto, Di.mi, Dj.mi, out Di z (by simp) N.iz.symm, out Dj z (by simp) N.jz.symm, out Di TO (by simp) N.oi, out Dj TO (by simp) N.oj, N.ti, N.tj, out Dj i1 (by simp) N.ij, out Di i2 (by simp) N.ij.symm⟩
end L2
namespace L2
open PySem PySem.Spec PyProof.Rows
def ZS.ok (K : PySem.W.Frag) (S : ZS) (H : Hp) : Prop :=
  match S with
  | .l a => ∃ xs, SqL K H a xs
  | .t _ => True
section
variable {X : Cx} {pins : List (Addr × Obj)} {σ : St} {H : Hp} {s : Shared}
end
def iZipX (K : PySem.W.Frag) (ta : TA) : TI := fun σ H Rr => ta σ H fun vs H1 => ∃ S R : ZS, vs = [S.val, R.val] ∧ S.ok K H1 ∧ R.ok K H1 ∧ Rr (Itp K S R) H1
section
variable {K : PySem.W.Frag} {lσ : St} {tc : TT} {te : TE} {H1 : Hp} {Q : VK}
end
section
variable {K : PySem.W.Frag} {g : TG} {tb : TS} {D : Ends} {σ : St} {H : Hp}
end
end L2
namespace Wa
open PySem PySem.Spec PyProof.Rows
section
variable {κ : Type} [DecidableEq κ]
end
section
variable {prog : Program} {w : World} {κ : Type} [DecidableEq κ] {knd : KeyKind prog w κ}
def SetK (knd : KeyKind prog w κ) (h : Heap) (a : Addr) (ks : List κ) : Prop := h.SetOf knd a (fun k => decide (k ∈ ks)) ks.length
theorem SetK.keep {h h' : Heap} {a : Addr} {ks : List κ} (S : SetK knd h a ks) (k : ∀ o, h.get? a = some o → h'.get? a = some o) : SetK knd h' a ks :=
  let ⟨o, es, ep, t, ho, r⟩ := S; ⟨o, es, ep, t, k o ho, r⟩
theorem SetK.fresh {h : Heap} {a : Addr} (ho : h.get? a = some (freshSet w)) : SetK knd h a [] :=
  ⟨_, #[], 0, _, ho, ⟨rfl, rfl, rfl⟩, rfl, fun e he => by simp at he, fun k => by simp, by show 0 < scanBound; decide, rfl, rfl⟩
variable {A : Around} {E : Value → Shared → Prop} {s : Shared}
end
end Wa
namespace L2
open PySem PySem.Spec PyProof.Rows
section
variable {X : Cx} {κ : Type} [DecidableEq κ]
end
end L2
namespace L2
open PySem PySem.Spec PyProof.Rows
section
variable {X : Cx}
/-- range(n) as an object -/
theorem call_range1v : CallR X (.type "range") (fun xs H Q => ∃ n, xs = [.int n] ∧ ∀ r, H r = none → Q (.ref r) (upd H r (RngO 0 n 1 r))) := by
  intro pins s σ H xs us Q I r h
  obtain ⟨n, rfl, q⟩ := h
  obtain ⟨u, rfl, t, rfl⟩ := vals1 r
  refine call_range_1 ?_
  have hn := IsRange.new s.heap 0 n 1 s.toks t (s.toks + 1)
  exact ⟨.ref s.heap.objs.size, _, I.laid (t' := s.toks + 1 + 1) (o := RngO 0 n 1 s.heap.objs.size) (fun b ob z => Heap.get?_push_of_some _ z) (Nat.le_refl _) ⟨⟨_, _, _, hn⟩, ⟨_, hn⟩, fun h1 h2 ⟨x, y, z, e⟩ k => ⟨x, y, z, k _ e⟩⟩, rfl, q _ (I.hok.fresh (Nat.le_refl _))⟩
end
end L2
namespace L2
open PySem PySem.Spec PyProof.Rows
/-- (0, first sign), (1, second one), .. -/
def Itu (x : Str) : It :=
  ⟨fun i _ => i < x.length, fun i H y H' => ∃ T c, y = .ref T ∧ H T = none ∧ H' = upd H T (.tup [.int i, .str ⟨#[c]⟩]) ∧ x.cps.toList[i]? = some c, fun i _ => i = x.length⟩
def iEnumT (ta : TA) : TI := fun σ H R => ta σ H fun vs H1 => ∃ x, vs = [.str x] ∧ R (Itu x) H1
end L2
namespace L2
open PySem PySem.Spec PyProof.Rows
/-- no object of the class is untrue -/
structure Tru (K : PySem.W.Frag) (C : Addr) : Prop where
  b : PySem.W.findIn K (.ref C) "__bool__" = some none
  l : PySem.W.findIn K (.ref C) "__len__" = some none
section
variable {X : Cx} {a b : Expr} {rest : List Expr} {ta tb : TE} {pos : Pos}
def tOrO (K : PySem.W.Frag) (ta tb : TE) : TE := fun σ H Q => ta σ H fun x H1 => (x = .non ∧ tb σ H1 Q) ∨ ∃ D C dx fs, x = .ref D ∧ H1 D = some (.ins C dx fs) ∧ Tru K C ∧ Q (.ref D) H1
end
end L2
namespace L2
open PySem PySem.Spec PyProof.Rows
/-- the exception at x, the head of its traces at T; fl: the frame that is noted there -/
structure Air (h : Heap) (x T : Addr) (C fl : Value) : Prop where
  e : ∃ oe vs, h.get? x = some oe ∧ (oe.cls = C ∧ oe.dict = none) ∧ oe.data = .fields vs ∧ vs[1]? = some (.ref T) ∧ vs[2]? = some .none
  ne : T ≠ x
  t : ∃ oT ts, h.get? T = some oT ∧ oT.data = .fields ts ∧ ts[3]? = some fl
/-- all but x and T stay; of the frames at fs the slots may change -/
structure Jump (fs : List Addr) (x T : Addr) (h h' : Heap) : Prop where
  keep : ∀ b o, h.get? b = some o → b ≠ x → b ≠ T → b ∉ fs → h'.get? b = some o
  slot : ∀ b o, h.get? b = some o → b ≠ x → b ≠ T → ∃ sl, h'.get? b = some { o with slots := sl }
theorem dict_map (f : Array Value → Array Value) (o : Obj) : (Obj.mapFields f o).dict = o.dict := by
  obtain ⟨c, d, dt, sl⟩ := o
  cases dt <;> rfl
theorem Jump.refl (fs : List Addr) (x T : Addr) (h : Heap) : Jump fs x T h h := ⟨fun _ _ e _ _ _ => e, fun _ o e _ _ => ⟨o.slots, e⟩⟩
theorem Jump.more {fs : List Addr} {x T T' : Addr} {h h1 h2 : Heap} (a : Jump fs x T h h1) (b : Jump fs x T' h1 h2) (n : T' = T ∨ h.get? T' = none) : Jump fs x T h h2 := by
  have ne : ∀ c o, h.get? c = some o → c ≠ T → c ≠ T' := fun c o e hc z => by
    rcases n with n | n
    · exact hc (z.trans n)
    · rw [z, n] at e; cases e
  refine ⟨fun c o e hx hT hf => b.keep c o (a.keep c o e hx hT hf) hx (ne c o e hT) hf, fun c o e hx hT => ?_⟩
  obtain ⟨sl, e1⟩ := a.slot c o e hx hT
  obtain ⟨sl', e2⟩ := b.slot c _ e1 hx (ne c o e hT)
  exact ⟨sl', e2⟩
section
variable {M : Model} {A : Around} {E : Value → Shared → Prop} {s : Shared} {base : Heap} {env : Env} {outer : List Env} {L x T : Addr} {C fl : Value} {Q : Unit → Shared → Prop}
/-- a new head of the traces -/
theorem air_entry {oe : Obj} {vs : Array Value} {head : Value} {hadNext : Bool} (hfr : A.frames = some (env :: outer)) (hl : s.heap.FunFrames base (env :: outer)) (hf : env.frame = some L) (he : s.heap.get? x = some oe) (h0 : oe.dict = none) (hd : oe.data = .fields vs) (h2 : vs[2]? = some .none)
    (h : ∀ g T, Air g x T oe.cls (rawInt L) → s.heap.get? T = none → Jump ((env :: outer).filterMap (·.frame)) x x s.heap g → Q () { s with heap := g }) :
    wpAny M A (do let a ← frameOf env; let pl ← entryPlaceOf L hadNext; let b ← EntryCells.newEntry head a .none (rawInt L) .none pl; setField (.ref x) 1 b) Q E s := by
  have size : 2 < vs.size := (Array.getElem?_eq_some_iff.mp h2).1
  have noFrame : x ∉ (env :: outer).filterMap (·.frame) := fun z => by
    obtain ⟨_, o, ho, no⟩ := hl.mem z
    rw [he] at ho
    cases ho
    exact no vs hd
  refine wpAny_bind (wpAny_frameOf_fun hfr hl hf fun g1 so => wpAny_bind (wpAny_entryPlaceOf fun pl hpl => ?_))
  unfold EntryCells.newEntry newFields
  refine wpAny_bind (wpAny_newObj_type ?_ (hpl.sizeOk5 _ _ _ _ _))
  have e1 := (so.2.1 x noFrame).trans he
  have up := fun (o : Obj) => Heap.get?_push_of_some (h := g1) o e1
  refine wpAny_setField (up _) hd (Nat.lt_of_succ_lt size) (h _ g1.objs.size ⟨?_, Nat.ne_of_gt (Heap.lt_size e1), ?_⟩ ?_ ⟨fun b o q nx _ nf => ?_, fun b o q nx _ => ?_⟩)
  · have d := Obj.data_mapFields hd (·.setIfInBounds 1 (Value.ref g1.objs.size))
    refine ⟨_, _, Heap.get?_update_self _ (up _) (Obj.isFreed_of_fields d), ⟨Obj.cls_mapFields _ _, (dict_map _ _).trans h0⟩, d, ?_, ?_⟩
    · rw [Array.getElem?_setIfInBounds_self_of_lt (Nat.lt_of_succ_lt size)]
    · rw [Array.getElem?_setIfInBounds_ne (by decide)]
      exact h2
  · refine ⟨_, _, (Heap.get?_update_other _ _ (Nat.ne_of_lt (Heap.lt_size e1))).trans (Heap.get?_push_size _ rfl), rfl, ?_⟩
    rcases hpl with rfl | ⟨_, _, _, _, _, _, _, rfl⟩ <;> simp
  · exact Heap.get?_none_of_le (Nat.le_of_eq so.1.symm)
  · rw [Heap.get?_update_other _ _ (Ne.symm nx)]
    exact Heap.get?_push_of_some _ ((so.2.1 b nf).trans q)
  · obtain ⟨sl, q1⟩ := so.2.2 b o q
    exact ⟨sl, (Heap.get?_update_other _ _ (Ne.symm nx)).trans (Heap.get?_push_of_some _ q1)⟩
/-- raised here: this frame is noted -/
theorem air_first {oe : Obj} {vs : Array Value} (hfr : A.frames = some (env :: outer)) (hl : s.heap.FunFrames base (env :: outer)) (hf : env.frame = some L) (he : s.heap.get? x = some oe) (h0 : oe.dict = none) (hd : oe.data = .fields vs) (h1 : vs[1]? = some .none) (h2 : vs[2]? = some .none)
    (h : ∀ g T, Air g x T oe.cls (rawInt L) → s.heap.get? T = none → Jump ((env :: outer).filterMap (·.frame)) x x s.heap g → Q () { s with heap := g }) : wpAny M A (noteFrame (.ref x) env) Q E s := by
  unfold noteFrame
  simp only [hf]
  refine wpAny_bind (wpAny_field he hd h1 ?_)
  rw [if_neg (by decide)]
  exact air_entry hfr hl hf he h0 hd h2 h
/-- come from a call: this frame is noted too -/
theorem air_next (hfr : A.frames = some (env :: outer)) (hl : s.heap.FunFrames base (env :: outer)) (hf : env.frame = some L) (a : Air s.heap x T C .none)
    (h : ∀ g T', Air g x T' C (rawInt L) → s.heap.get? T' = none → Jump ((env :: outer).filterMap (·.frame)) x T s.heap g → Q () { s with heap := g }) : wpAny M A (noteFrame (.ref x) env) Q E s := by
  obtain ⟨⟨oe, vs, he, ⟨rfl, h0⟩, hd, h1, h2⟩, ne, oT, ts, hT, dT, h3⟩ := a
  unfold noteFrame
  simp only [hf]
  refine wpAny_bind (wpAny_field he hd h1 ?_)
  rw [if_pos (show (Value.ref T != Value.none) = true by simp)]
  refine wpAny_bind (wpAny_field hT dT h3 ?_)
  rw [if_neg (show ¬ (Value.none == rawInt L) = true by simp [rawInt])]
  refine wpAny_bind (wpAny_setField hT dT (Array.getElem?_eq_some_iff.mp h3).1 ?_)
  have oth : ∀ b, b ≠ T → (s.heap.update T (Obj.mapFields (·.setIfInBounds 3 Value.none))).get? b = s.heap.get? b := fun b hb => Heap.get?_update_other _ _ (Ne.symm hb)
  have old : ∀ b o, s.heap.get? b = some o → ∃ o', (s.heap.update T (Obj.mapFields (·.setIfInBounds 3 Value.none))).get? b = some o' := fun b o q => by
    by_cases hb : b = T
    · rw [hb]
      exact ⟨_, Heap.get?_update_self _ hT (Obj.isFreed_of_fields (Obj.data_mapFields dT _))⟩
    · exact ⟨o, (oth b hb).trans q⟩
  have noT : ∀ b o, s.heap.get? b = some o → (∀ ws, o.data ≠ .fields ws) → b ≠ T := fun b o q no z => by
    rw [z, hT] at q
    cases q
    exact no ts dT
  refine air_entry (s := { s with heap := s.heap.update T (Obj.mapFields (·.setIfInBounds 3 Value.none)) }) hfr (hl.of_keeps fun b o q no => ⟨o, (oth b (noT b o q no)).trans q, rfl⟩) hf ((oth x ne.symm).trans he) h0 hd h2 fun g T' a1 n1 j1 => h g T' a1 ?_ ⟨fun b o q nx nT nf => j1.keep b o ((oth b nT).trans q) nx nx nf, fun b o q nx nT => j1.slot b o ((oth b nT).trans q) nx nx⟩
  cases e : s.heap.get? T' with
  | none => rfl
  | some o =>
    obtain ⟨o', e'⟩ := old T' o e
    rw [show (s.heap.update T (Obj.mapFields (·.setIfInBounds 3 Value.none))).get? T' = none from n1] at e'
    cases e'
/-- no frame is noted any more -/
theorem air_land (a : Air s.heap x T C fl) (h : ∀ g, Air g x T C .none → (∀ b o, b ≠ T → s.heap.get? b = some o → g.get? b = some o) → (∃ o, g.get? T = some o) → Q () { s with heap := g }) : wpAny M A (setFlight (.ref x) none) Q E s := by
  obtain ⟨⟨oe, vs, he, hC, hd, h1, h2⟩, ne, oT, ts, hT, dT, h3⟩ := a
  have n3 : 3 < ts.size := (Array.getElem?_eq_some_iff.mp h3).1
  unfold setFlight
  refine wpAny_bind (wpAny_field he hd h1 ?_)
  rw [if_pos (show (Value.ref T != Value.none) = true by simp)]
  have d := Obj.data_mapFields dT (·.setIfInBounds 3 ((none : Option Addr).elim Value.none fun f => rawInt f))
  have g3 := Heap.get?_update_self _ hT (Obj.isFreed_of_fields d)
  refine wpAny_setField hT dT n3 (h _ ⟨⟨oe, vs, (Heap.get?_update_other _ _ ne).trans he, hC, hd, h1, h2⟩, ne, _, _, g3, d, ?_⟩ (fun b o nb q => (Heap.get?_update_other _ _ (Ne.symm nb)).trans q) ⟨_, g3⟩)
  rw [Array.getElem?_setIfInBounds_self_of_lt n3]
  rfl
/-- out of the frame in which it was raised -/
theorem air_out {oe : Obj} {vs : Array Value} (hfr : A.frames = some (env :: outer)) (hl : s.heap.FunFrames base (env :: outer)) (hf : env.frame = some L) (he : s.heap.get? x = some oe) (h0 : oe.dict = none) (hd : oe.data = .fields vs) (h1 : vs[1]? = some .none) (h2 : vs[2]? = some .none)
    (h : ∀ g T, Air g x T oe.cls .none → s.heap.get? T = none → Jump ((env :: outer).filterMap (·.frame)) x x s.heap g → Q () { s with heap := g }) : wpAny M A (leaving env (.ref x)) Q E s := by
  unfold leaving
  refine wpAny_bind (air_first hfr hl hf he h0 hd h1 h2 fun g T a n j => air_land (s := { s with heap := g }) a fun g2 a2 k2 _ => h g2 T a2 n ?_)
  have ne : ∀ b o, s.heap.get? b = some o → b ≠ T := fun b o q z => by rw [z, n] at q; cases q
  refine ⟨fun b o q nx nT nf => k2 b o (ne b o q) (j.keep b o q nx nT nf), fun b o q nx nT => ?_⟩
  obtain ⟨sl, e⟩ := j.slot b o q nx nT
  exact ⟨sl, k2 b _ (ne b o q) e⟩
/-- out of a frame that it comes through -/
theorem air_through (hfr : A.frames = some (env :: outer)) (hl : s.heap.FunFrames base (env :: outer)) (hf : env.frame = some L) (a : Air s.heap x T C .none)
    (h : ∀ g T', Air g x T' C .none → s.heap.get? T' = none → Jump ((env :: outer).filterMap (·.frame)) x T s.heap g → Q () { s with heap := g }) : wpAny M A (leaving env (.ref x)) Q E s := by
  unfold leaving
  refine wpAny_bind (air_next hfr hl hf a fun g T' a n j => air_land (s := { s with heap := g }) a fun g2 a2 k2 _ => h g2 T' a2 n ?_)
  have ne : ∀ b o, s.heap.get? b = some o → b ≠ T' := fun b o q z => by rw [z, n] at q; cases q
  refine ⟨fun b o q nx nT nf => k2 b o (ne b o q) (j.keep b o q nx nT nf), fun b o q nx nT => ?_⟩
  obtain ⟨sl, e⟩ := j.slot b o q nx nT
  exact ⟨sl, k2 b _ (ne b o q) e⟩
end
end L2
namespace L2
open PySem PySem.Spec PyProof.Rows
section
variable {P : Program} {w : World} {H H' : Hp} {h h' g : Heap} {a : Addr} {o : HO} {fs : List Addr} {x T T' : Addr} {C : Value}
theorem ObjOk.is (q : ObjOk P w H h a o) : ∃ u, h.get? a = some u := by
  cases o with
  | lst xs => obtain ⟨_, _, _, _, e⟩ := q; exact ⟨_, e⟩
  | tup xs => obtain ⟨_, _, _, u, e, _⟩ := q; exact ⟨u, e⟩
  | dK kvs => obtain ⟨_, _, _, _, u, _, _, e, _⟩ := q; exact ⟨u, e⟩
  | dT kvs => obtain ⟨_, _, _, _, u, _, _, e, _⟩ := q; exact ⟨u, e⟩
  | set S n => obtain ⟨u, _, _, _, e, _⟩ := q; exact ⟨u, e⟩
  | ins C dx fs => obtain ⟨_, _, _, e, _⟩ := q; exact ⟨_, e⟩
  | own y => exact q
  | xd fs => obtain ⟨_, ⟨u, _, _, e, _⟩, _⟩ := q; exact ⟨u, e⟩
  | rng lo hi => obtain ⟨_, _, _, e⟩ := q; exact ⟨_, e⟩
  | frz ob u => exact ⟨_, q.1⟩
  | tbl lp qn => obtain ⟨_, e, _⟩ := q; exact ⟨_, e⟩
  | met f y => exact ⟨_, (show h.get? a = some _ from q)⟩
  | ext φ => exact q.2.1
theorem HOk.no (k : HOk P w H h) (n : h.get? a = none) : H a = none := by
  cases e : H a with
  | none => rfl
  | some u =>
    obtain ⟨v, q⟩ := (k a u e).is
    rw [n] at q
    cases q
/-- from the state (H, h) to one with an exception under way: x it, T its traces -/
structure Fly (P : Program) (w : World) (fs : List Addr) (H H' : Hp) (h h' : Heap) (x T : Addr) : Prop where
  un : Un fs [] H H' h h'
  ok : HOk P w H' h'
  x0 : H' x = none
  t0 : H' T = none
  xn : h.get? x = none
  tn : h.get? T = none
theorem Fly.jump (f : Fly P w fs H H' h h' x T) (hf : ∀ b ∈ fs, H' b = none) (j : Jump fs x T h' g) (t : T' = T ∨ h'.get? T' = none) : Fly P w fs H H' h g x T' := by
  have ne : ∀ b u, h.get? b = some u → b ≠ x ∧ b ≠ T := fun b u q => ⟨(fun z => by rw [z, f.xn] at q; cases q), (fun z => by rw [z, f.tn] at q; cases q)⟩
  have tr : ∀ b u, H' b = some u → ∀ v, h'.get? b = some v → g.get? b = some v := fun b u q v e =>
    j.keep b v e (fun z => by rw [z, f.x0] at q; cases q) (fun z => by rw [z, f.t0] at q; cases q) (fun z => by rw [hf b z] at q; cases q)
  refine ⟨⟨fun b u q n hb hx => ?_, fun b u q n hb hx => ?_, f.un.free, fun b u q hx => ?_, f.un.tups, f.un.frzs, f.un.tbls⟩, fun b u q => ?_, f.x0, ?_, f.xn, ?_⟩
  · exact j.keep b u (f.un.keep b u q n hb hx) (ne b u q).1 (ne b u q).2 hb
  · obtain ⟨sl, e⟩ := f.un.slot b u q n hb hx
    obtain ⟨sl', e'⟩ := j.slot b _ e (ne b u q).1 (ne b u q).2
    exact ⟨sl', e'⟩
  · obtain ⟨u', e⟩ := f.un.there b u q hx
    obtain ⟨sl, e'⟩ := j.slot b u' e (ne b u q).1 (ne b u q).2
    exact ⟨_, e'⟩
  · refine (f.ok b u q).stay (fun c v hc e => ?_) (fun _ z => z) fun _ _ z => z
    rcases hc with rfl | hc
    · exact tr c u q v e
    · exact tr c _ hc v e
  · rcases t with rfl | t
    · exact f.t0
    · exact f.ok.no t
  · rcases t with rfl | t
    · exact f.tn
    · cases e : h.get? T' with
      | none => rfl
      | some u =>
        obtain ⟨u', e'⟩ := f.un.there T' u e (by simp)
        rw [t] at e'
        cases e'
/-- under way: just made, or come through a frame -/
def Up (h : Heap) (x T : Addr) (C : Value) : Prop :=
  (T = x ∧ ∃ oe vs, h.get? x = some oe ∧ (oe.cls = C ∧ oe.dict = none) ∧ oe.data = .fields vs ∧ vs[1]? = some .none ∧ vs[2]? = some .none) ∨ Air h x T C .none
/-- how an exception lies behind a call -/
def CX1 (P : Program) (w : World) : CXT := fun outer H s E e s' =>
  ∃ x T C H', e = .ref x ∧ s'.os = s.os ∧ AllBare s'.gens ∧ Fly P w (frs outer) H H' s.heap s'.heap x T ∧ Up s'.heap x T C ∧ E C none H'
end
section
variable {X : Cx} {pins : List (Addr × Obj)} {σ : St} {H H' : Hp} {s s' : Shared} {g : Heap} {x T : Addr} {e : Value} {EX : XK}
theorem Fly.up (I : Inv X pins σ H s) (hx : X.ex = []) (f : Fly X.prog X.w (frs X.stack) H H' s.heap g x T) : Fly X.prog X.w X.fs X.H₀ H' X.s₀.heap g x T := by
  have nx : ∀ b : Addr, b ∉ X.ex := fun b z => by rw [hx] at z; cases z
  have nl : ∀ b u, X.s₀.heap.get? b = some u → b ≠ X.env.locals := fun b u q => Nat.ne_of_lt (Nat.lt_of_lt_of_le (Heap.lt_size q) I.ok.above)
  have no : ∀ b, s.heap.get? b = none → X.s₀.heap.get? b = none := fun b n => by
    cases q : X.s₀.heap.get? b with
    | none => rfl
    | some u =>
      obtain ⟨u', q'⟩ := I.base.there b u q (nx b)
      rw [n] at q'
      cases q'
  refine ⟨⟨fun b u q n hb _ => ?_, fun b u q n hb _ => ?_, fun b u q n _ => ?_, fun b u q _ => ?_, fun b xs q => f.un.tups b xs (I.base.tups b xs q), fun b u xs q => f.un.frzs b u xs (I.base.frzs b u xs q), fun b lp qn q => f.un.tbls b lp qn (I.base.tbls b lp qn q)⟩, f.ok, f.x0, f.t0, no x f.xn, no T f.tn⟩
  · exact f.un.keep b u (I.base.keep b u q n hb (nx b)) (I.base.free b u q n (nx b)) (fun z => (List.mem_cons.mp (I.stkSub b z)).elim (nl b u q) hb) (by simp)
  · obtain ⟨sl, e1⟩ := I.base.slot b u q n hb (nx b)
    obtain ⟨sl', e2⟩ := f.un.any e1 (I.base.free b u q n (nx b)) (by simp)
    exact ⟨sl', e2⟩
  · obtain ⟨u', e1⟩ := I.base.there b u q (nx b)
    exact f.un.free b u' e1 (I.base.free b u q n (nx b)) (by simp)
  · obtain ⟨u', e1⟩ := I.base.there b u q (nx b)
    exact f.un.there b u' e1 (by simp)
/-- the body's state at an exception -/
theorem Fly.inv (I : Inv X pins σ H s) (os : s'.os = s.os) (br : AllBare s'.gens) (f : Fly X.prog X.w (frs X.stack) H H' s.heap s'.heap x T) : Inv X pins σ H' s' := I.call' (ch := []) os f.un f.ok br fun _ z => nomatch z
/-- an exception leaves a def -/
theorem leave1 {E' : Value → Shared → Prop} (hx : X.ex = []) (hs : X.stack = X.env :: X.outer) (hl : X.env.frame = some X.env.locals) (I : Inv X pins σ H s) (c : CX1 X.prog X.w X.stack H s EX e s') :
    wpAny (model X.prog X.w) X.A (leaving X.env e) (fun _ s'' => CX1 X.prog X.w X.outer X.H₀ X.s₀ EX e s'') E' s' := by
  obtain ⟨x, T, C, H', rfl, os, br, f, u, q⟩ := c
  have I2 := f.inv I os br
  have hfr := I2.ok.frames
  have fr := I2.stack
  have free := I2.stkFree
  rw [hs] at hfr fr
  have out : ∀ g2 T2, Air g2 x T2 C .none → s'.heap.get? T2 = none → Jump ((X.env :: X.outer).filterMap (·.frame)) x T s'.heap g2 → CX1 X.prog X.w X.outer X.H₀ X.s₀ EX (.ref x) { s' with heap := g2 } := fun g2 T2 a n j =>
    ⟨x, T2, C, H', rfl, os.trans I.os, br, (f.jump free (by rw [hs]; exact j) (.inr n)).up I hx, .inr a, q⟩
  rcases u with ⟨rfl, oe, vs, he, ⟨rfl, h0⟩, hd, h1, h2⟩ | a
  · exact air_out hfr fr hl he h0 hd h1 h2 out
  · exact air_through hfr fr hl a out
/-- an exception of the body's, wherever it came up -/
def XPa (X : Cx) (EX : XK) : Value → Shared → Prop := fun e s' => ∃ pins σ H s, Inv X pins σ H s ∧ CX1 X.prog X.w X.stack H s EX e s'
abbrev Cx.may (X : Cx) (EX : XK) : Cx := X.wish (XPa X EX)
theorem pass1 : Passes (CX1 X.prog X.w) (X.may EX) EX := fun pins σ H s _ _ I c => ⟨pins, σ, H, s, I.unwish, c⟩
end
section
variable {P : Program} {w : World} {K : PySem.W.Frag} {mg : Str → Option Value} {base : Heap}
/-- THE RULE for a def that an exception may leave -/
theorem Fun.okx {x qual : Str} {st : Stmt} {f : Addr} {fd : FuncData} {N ps : List Str} {k : Nat} {sp : Sp} (F : Fun K x qual st f fd) (S : FnScope N ps (defScope st)) (len : ∀ vs H Q E, sp vs H Q E → vs.length = ps.length)
    (hbody : ∀ (cdv : Value) (A : Around) (outer : List Env) (s : Shared) (H : Hp) (vs : List V) (Q : VK) (E : XK), Room k (A.deeper (envOfC qual (defScope st) s.heap.objs.size f cdv)) → sp vs H Q E →
      ∃ t, PSs ((cxOf (CX1 P w) P w K mg base N qual (defScope st) f cdv A outer s H E).may E) (defBody st) t ∧ t { nx := fun _ H' => Q .non H', rt := Q } (start N vs) H) : FnOk P w K mg base (CX1 P w) (k + 1) f fd ps sp := by
  obtain ⟨oc, od, kV, doc, pm, an, cdv, ct, osl, rfl, lk, hcd⟩ := F.ex
  refine fn_of lk hcd S len fun A outer s H vs Q E hr hsp => ?_
  obtain ⟨t, h, q⟩ := hbody cdv A outer s H vs Q E hr hsp
  refine ⟨t, fun pins s1 σ H1 D I hw => wpAny_mono (h pins s1 σ H1 D (I.wish _) hw) (fun _ _ z => z.unwish) fun e s' z => ?_, q⟩
  obtain ⟨pins2, σ2, H2, s2, I2, c⟩ := z
  exact leave1 (X := cxOf (CX1 P w) P w K mg base N qual (defScope st) f cdv A outer s H E) rfl rfl rfl I2 c
/-- a def that none leaves, where one may -/
theorem FnOk.calm {k : Nat} {f : Addr} {fd : FuncData} {ps : List Str} {sp : Sp} (F : FnOk P w K mg base CX0 k f fd ps sp) : FnOk P w K mg base (CX1 P w) k f fd ps sp :=
  ⟨F.len, fun A outer s H args us vs Q E hr he hb hv hs => codeAny_mono (F.run A outer s H args us vs Q E hr he hb hv hs) fun r s' h => by
    cases r with
    | error e => exact False.elim h
    | ok fl => cases fl <;> exact h⟩
end
section
variable {X : Cx} {EX : XK} {x : Str} {C : Addr} {bm bmN : List Value} {newId nid initId inN B Bn : String} {e₀ : Expr} {rest : List Expr} {t : TA} {np cpos pos : Pos}
/-- raise C(..), C an own class of exceptions -/
def tRaise (C : Addr) (EX : XK) (t : TA) : TS := fun _ σ H => t σ H fun vs H1 => vs.length ≤ sizeLine ∧ EX (.ref C) none H1
theorem ps_raise (O : OwnCls x C bm newId X.mg X.base) (Fn : ExcBaseFacts Bn newId inN bmN) (hBn : bm.contains (.type Bn) = true) (FB : ExcBaseFacts B nid initId bm) (hc : X.calm = true) (hg : Gl X x) (ha : PA (X.may EX) (e₀ :: rest) t)
    (hd : (x == ("__debug__" : Str)) = false := by decide) (he : starEach (e₀ :: rest) X.env = (false, eval e₀ X.env) :: starEach rest X.env := by rfl) (hpl : (backTo cpos (starEach rest X.env)).any (·.1) = false := by rfl) :
    PS (X.may EX) (.Raise (some (.Call (.Name x np) (e₀ :: rest) [] cpos)) none pos) (tRaise C EX t) := by
  intro pins s σ H D I h
  obtain ⟨tl, N, nm, q, bs, hdct, sn, sub, ab, col, dd, k0, k1, k2, k3, k5, mN, hC, hN, hni, T⟩ := O.obj
  refine wpAny_Raise_call_subU (C := C) (nm := nm) (q := q) (N := N) (bs := bs) (bm := tl) (hdct := hdct) (sn := sn) (sub := sub) (ab := ab) (col := col) (dd := dd) (k0 := k0) (k1 := k1) (k2 := k2) (k3 := k3) (k5 := k5)
    Fn hBn FB (mN := mN) (T.hasType FB.hasBase) (I.ok.hd hc) ?pl hni (ld_glob I hg O.bound ⟨rfl, ?_⟩ hd)
  case pl =>
    show (backTo cpos (starEach (e₀ :: rest) X.env)).any (·.1) = false
    rw [he]
    exact hpl
  have ha' := ha cpos pins s σ H _ I h
  show wpAny _ _ (evalArgs (.ref C) true (backTo cpos (starEach (e₀ :: rest) X.env)) []) _ _ s
  have ha'' : wpAny (model X.prog X.w) X.A (spliced (backTo cpos (starEach (e₀ :: rest) X.env))) (AP (X.may EX) pins σ fun vs H1 => vs.length ≤ sizeLine ∧ EX (.ref C) none H1) (XPa X EX) s := ha'
  rw [he] at ha'' ⊢
  refine Calls.evalArgs_plain (wpAny_mono ha'' (fun us s2 z => ?_) fun _ _ y => y)
  obtain ⟨vs, H1, I1, r, hz, qx⟩ := z
  refine ⟨rfl, by rw [← r.length]; exact hz, I1.bk _ _ hC, hN.keeps I1.bk, T.keeps I1.bk, fun h' e m => ?_⟩
  obtain ⟨tp, he', _, _⟩ := m.there
  have n0 := I1.hok.no m.new
  exact ⟨pins, σ, H1, s2, I1.unwish, e, e, .ref C, H1, rfl, rfl, I1.bare, ⟨Un.kept m.keeps, I1.hok.kept m.keeps, n0, n0, m.new, m.new⟩, .inl ⟨rfl, _, _, he', ⟨rfl, rfl⟩, rfl, rfl, rfl⟩, qx⟩
/-- behind a statement that is never done nothing is read -/
theorem pss_stop {st : Stmt} {rest : List Stmt} {t : TS} (h1 : PS X st t) : PSs X (st :: rest) (fun D σ H => t { D with nx := fun _ _ => False } σ H) := by
  intro pins s σ H D I h
  refine wpAny_execs_cons (thn (h1 pins s σ H { D with nx := fun _ _ => False } I h) fun f s1 q => ?_)
  cases f with
  | next =>
    obtain ⟨_, _, _, q⟩ := q
    exact q.elim
  | ret v => exact q
  | brk => exact q
  | cont => exact q
end
/-- an own class of exceptions, out of the fragment -/
theorem own_in {K : PySem.W.Frag} {h : Heap} {x : Str} {C : Addr} {bm : List Value} {newId : String} {mg : Str → Option Value} (X : K.In h) (b : mg x = some (.ref C)) (q : PySem.W.excIn K C bm newId = true) : OwnCls x C bm newId mg h := by
  refine ⟨b, ?_⟩
  unfold PySem.W.excIn at q
  split at q
  case h_2 => cases q
  case h_1 dd cd sl ho =>
    split at q
    case h_2 => cases q
    case h_1 C2 tl k0 k1 k2 k3 n k5 hm hs =>
      simp only [Bool.and_eq_true, beq_iff_eq, Bool.not_eq_true'] at q
      obtain ⟨⟨⟨⟨⟨rfl, rfl⟩, nd⟩, ht⟩, ok⟩, ni⟩ := q
      obtain ⟨nm, bs, mro, ns, qn, hd, sn, sub, ab, col, del⟩ := cd
      dsimp only at hm nd ok ni
      subst hm nd
      obtain rfl : sl = #[k0, k1, k2, k3, some (.builtin n), k5] := by
        cases sl
        exact congrArg Array.mk hs
      exact ⟨tl, ns, nm, qn, bs, hd, sn, sub, ab, col, dd, k0, k1, k2, k3, k5, _, X _ _ ho, .of_isNs (PySem.W.isNs_of_in X ok), PySem.W.nsMap_none_of_in X ok ni, PySem.W.tail_of_in X ht⟩
end L2
namespace L2
open PySem PySem.Spec PyProof.Rows
theorem entry_unchain : entryFor table "proto.unchain" = some Builtin.«proto.unchain» := entryFor_of_fast (by kernel_rfl)
section
variable {prog : Program} {w : World} {A : Around} {E : Value → Shared → Prop} {s : Shared} {e : Addr} {oe : Obj} {vs : Array Value}
/-- an exception raised anew while e is looked after: e stands behind it -/
theorem raise_behind {α : Type} {a : Addr} {o : Obj} {ws : Array Value} {Q : α → Shared → Prop} (hh : A.handled = some (.ref e)) (he : s.heap.get? e = some oe) (hd : oe.data = .fields vs) (h2 : vs[2]? = some .none) (ha : s.heap.get? a = some o) (hw : o.data = .fields ws) (h3 : 2 < ws.size) (ne : e ≠ a)
    (h : E (.ref a) { s with heap := s.heap.update a (Obj.mapFields (·.setIfInBounds 2 (.ref e))) }) : wpAny (model prog w) A (raiseNew (.ref a) : Sem α) Q E s := by
  unfold raiseNew
  refine wpAny_bind (wpAny_handled ?_)
  rw [hh]
  simp only
  rw [if_pos (show (Value.ref e != Value.ref a) = true by simp [ne])]
  refine wpAny_bind (wpAny_holding (wpAny_runValue (codeAny_builtin entry_unchain ?_)))
  unfold Builtin.«proto.unchain»
  refine wpAny_bind (wpAny_field he hd h2 ?_)
  rw [if_pos (show (Value.none == Value.none) = true by decide)]
  refine wpAny_bind (wpAny_pure (wpAny_pure ?_))
  show wpAny _ _ (setField (.ref a) 2 (.ref e) >>= _) _ _ _
  exact wpAny_bind (wpAny_setField ha hw h3 (wpAny_throw h))
theorem range_end_h {it : Addr} {x left step : Int} {Q : Option Value → Shared → Prop} (hh : A.handled = some (.ref e)) (he : s.heap.get? e = some oe) (hd : oe.data = .fields vs) (h2 : vs[2]? = some .none) (hit : IsRangeIter s.heap it x left step) (hl : left ≤ 0)
    (hQ : ∀ g, (∀ b o, s.heap.get? b = some o → g.get? b = some o) → Q none { s with heap := g }) : wpAny (model prog w) A (pyNext (.ref it)) Q E s := by
  have ty : s.TypeIs (.ref it) "range_iterator" := ⟨_, hit, rfl⟩
  unfold pyNext
  refine wpAny_bind (wpAny_attempt (wpAny_callSpecial?_slot (name := Str.ofString "__next__") ty F.slot_range_iterator_next (wpAny_call_entry F.slot_range_iterator_next ty F.entry_range_iterator_next ?_ (F.args_range_iterator_next_1 _))))
  show wpAny _ _ (field (.ref it) 0 >>= _) _ _ s
  refine wpAny_bind (wpAny_field hit rfl (x := rawInt x) rfl ?_)
  show wpAny _ _ (field (.ref it) 1 >>= _) _ _ s
  refine wpAny_bind (wpAny_field hit rfl (x := rawInt left) rfl ?_)
  show wpAny _ _ (field (.ref it) 2 >>= _) _ _ s
  refine wpAny_bind (wpAny_field hit rfl (x := rawInt step) rfl ?_)
  show wpAny _ _ (if left ≤ 0 then _ else _) _ _ s
  rw [if_pos hl]
  refine wpAny_bind (wpAny_rule (wpAny_bind ?_))
  show wpAny _ _ (newExc (.type "StopIteration") [] >>= _) _ _ _
  refine wpAny_bind ?_
  simp only [newExc, newTuple]
  refine wpAny_bind (wpAny_newObj_type ?_ (by size_fits))
  refine wpAny_bind (m := firstArgMember _ _) (wpAny_of_eq (a := Value.none) (by simp only [firstArgMember]; rfl) (wpAny_newObj_type ?_ (by size_fits)))
  have up := fun (o1 o2 : Obj) => Heap.get?_push_of_some (h := s.heap.push o1) o2 (Heap.get?_push_of_some o1 he)
  refine raise_behind (A := A.in1) hh (up _ _) hd h2 (Heap.get?_push_size _ rfl) rfl (by simp; omega) ?_ ?_
  · rw [Heap.size_push]
    exact Nat.ne_of_lt (Nat.lt_succ_of_lt (Heap.lt_size he))
  refine wpAny_bind (wpAny_isInstance (T := "StopIteration") (b := true) ?_ isSubtype_stop (wpAny_pure (hQ _ fun b o q => ?_)))
  · exact ⟨_, Heap.get?_update_self _ (Heap.get?_push_size _ rfl) rfl, rfl⟩
  · rw [Heap.get?_update_other _ _ (by rw [Heap.size_push]; exact Nat.ne_of_gt (Nat.lt_succ_of_lt (Heap.lt_size q)))]
    exact Heap.get?_push_of_some _ (Heap.get?_push_of_some _ q)
end
end L2
namespace L2
open PySem PySem.Spec PyProof.Rows
/-- an exception that is caught: what is known of its object -/
def ExcO (C x : Addr) : HO := .ext fun h => ∃ oe vs, h.get? x = some oe ∧ (oe.cls = .ref C ∧ oe.dict = none) ∧ oe.data = .fields vs ∧ vs[2]? = some .none
/-- the body's context within the suite -/
abbrev Cx.suite (X : Cx) (x : Addr) : Cx := { X with A := X.A.mark (some (.ref x)), calm := false, xe := fun _ _ => False }
section
variable {X : Cx} {pins : List (Addr × Obj)} {σ : St} {H H' : Hp} {s : Shared} {h' : Heap} {x : Addr}
theorem Inv.suite (I : Inv X pins σ H s) (x : Addr) : Inv (X.suite x) pins σ H s :=
  ⟨⟨I.ok.mod, I.ok.kind, I.ok.glob, I.ok.blt, I.ok.above, I.ok.inj, I.ok.has, I.ok.cab, (fun z => nomatch z), I.ok.frames, I.ok.stk, I.ok.exf, I.ok.bs, I.ok.bsz, I.ok.noex, I.ok.exfs, I.ok.funs, I.ok.frf⟩, I.os, I.bare, I.base, I.loc, I.cell, I.free, I.freeC, I.pin, I.hok, I.len⟩
/-- the frame's own names are changed: none is known any more -/
theorem Inv.names {t' : Nat} {m : Str → Option Value} (I : Inv X pins σ H s) (hn : h'.Ns X.env.locals m) (hs : Heap.SameBut X.env.locals s.heap h') : Inv X pins (σ.map fun _ => none) H { s with heap := h', toks := t' } := by
  have nl : ∀ b o, X.s₀.heap.get? b = some o → b ≠ X.env.locals := fun b o q => Nat.ne_of_lt (Nat.lt_of_lt_of_le (Heap.lt_size q) I.ok.above)
  have ntr : ∀ b u, H b = some u → b ≠ X.env.locals := fun b u q z => by rw [z, I.free] at q; cases q
  refine ⟨I.ok, I.os, I.bare, ⟨fun b o q n hb hx => (hs.2 b (nl b o q)).trans (I.base.keep b o q n hb hx), fun b o q n hb hx => ?_, I.base.free, fun b o q hx => ?_, I.base.tups, I.base.frzs, I.base.tbls⟩, ⟨m, hn, fun i y v _ q _ => ?_⟩, fun y c q => ?_, I.free, I.freeC, fun p hp => ?_, fun b u q => ?_, by rw [List.length_map]; exact I.len⟩
  · obtain ⟨sl, e⟩ := I.base.slot b o q n hb hx
    exact ⟨sl, (hs.2 b (nl b o q)).trans e⟩
  · obtain ⟨o', e⟩ := I.base.there b o q hx
    exact ⟨o', (hs.2 b (nl b o q)).trans e⟩
  · rw [List.getElem?_map] at q
    cases e : σ[i]? with
    | none => rw [e] at q; cases q
    | some a => rw [e] at q; cases q
  · obtain ⟨v, z⟩ := I.cell y c q
    exact ⟨v, z.sameBut hs (I.cne y c q)⟩
  · obtain ⟨e, n, ne, nf, d⟩ := I.pin p hp
    exact ⟨(hs.2 p.1 ne).trans e, n, ne, nf, d⟩
  · refine (I.hok b u q).stay (fun c v hc e => (hs.2 c ?_).trans e) (fun _ z => z) fun _ _ z => z
    rcases hc with rfl | hc
    · exact ntr c u q
    · exact ntr c _ hc
/-- the exception, now tracked -/
theorem Fly.track {P : Program} {w : World} {fs : List Addr} {H H' : Hp} {h g : Heap} {x T C : Addr} (f : Fly P w fs H H' h g x T) (a : Air g x T (.ref C) .none) : Un fs [] H (upd H' x (ExcO C x)) h g ∧ HOk P w (upd H' x (ExcO C x)) g := by
  have ne : ∀ b u, h.get? b = some u → b ≠ x := fun b u q z => by rw [z, f.xn] at q; cases q
  have nt : ∀ b u, H' b = some u → b ≠ x := fun b u q z => by rw [z, f.x0] at q; cases q
  refine ⟨⟨f.un.keep, f.un.slot, fun b u q n hx => by rw [upd_ne (ne b u q)]; exact f.un.free b u q n hx, f.un.there, fun b xs q => ?_, fun b o u q => ?_, fun b lp qn q => ?_⟩, fun b u q => ?_⟩
  · have := f.un.tups b xs q
    rw [upd_ne (nt b _ this)]; exact this
  · have := f.un.frzs b o u q
    rw [upd_ne (nt b _ this)]; exact this
  · have := f.un.tbls b lp qn q
    rw [upd_ne (nt b _ this)]; exact this
  · by_cases hb : b = x
    · subst hb
      rw [upd_same] at q
      cases q
      obtain ⟨oe, vs, e1, e2, e3, _, e5⟩ := a.e
      refine ⟨⟨oe, vs, e1, e2, e3, e5⟩, ⟨oe, e1⟩, fun h1 h2 z k => ?_⟩
      obtain ⟨o1, ws, z1, z2⟩ := z
      exact ⟨o1, ws, k _ z1, z2⟩
    · rw [upd_ne hb] at q
      refine (f.ok b u q).stay (fun _ _ _ e => e) (fun c z => ?_) fun c xs z => ?_
      · rw [upd_ne (nt c _ z)]; exact z
      · rw [upd_ne (nt c _ z)]; exact z
end
section
variable {M : Model} {A : Around} {E : Value → Shared → Prop} {s : Shared} {K : PySem.W.Frag} {x C D : Addr} {oe : Obj} {Q : Bool → Shared → Prop}
/-- is it caught: by a class of one's own above its own -/
theorem caught_by (X : K.In s.heap) (he : s.heap.get? x = some oe) (hc : oe.cls = .ref C) (hb : PySem.W.subIn K (.ref D) (.type "BaseException") = some true) (hD : (PySem.W.clsIn K D).isSome = true) (hT : PySem.W.typeIn K (.ref D) = some (.type "type")) (hs : PySem.W.subIn K (.ref C) (.ref D) = some true) (h : Q true s) :
    wpAny M A (excMatches (.ref x) (.ref D)) Q E s := by
  have L0 := PySem.W.looks_typeIn (M := M) X hT
  have L1 := PySem.W.looks_subIn (M := M) X hb
  have L2 := PySem.W.looks_subIn (M := M) X hs
  have L3 : PySem.W.Looks M s.heap (isType (.ref D)) true := by
    unfold PySem.W.clsIn at hD
    split at hD
    · rename_i c d cd sl ho
      intro A' Q' E' s' k q
      unfold isType loadHead
      exact wpAny_bind (wpAny_loadPart (k _ _ (X _ _ ho)) (wpAny_pure q))
    · cases hD
  have L4 : PySem.W.Looks M s.heap (typeOf (.ref x)) (.ref C) := hc ▸ (PySem.W.Looks.ld he).andThen .now
  have n1 : isSubtype (.type "type") (.type "tuple") = pure false := by rw [isSubtype_type]; kernel_rfl
  obtain ⟨hh, g, d, tk, os⟩ := s
  unfold excMatches isInstance isExcClass
  repeat lk
  exact h
end
/-- try: f(..) -- except D as n: .., the suite returns -/
def tTry (K : PySem.W.Frag) (D : Addr) (sp : Sp) (i : Nat) (t : TA) (tb : Addr → TS) : TS := fun Dn σ H => t σ H fun vs H1 => sp vs H1 (fun _ H2 => Dn.nx σ H2) fun C _ H2 => ∃ C0, C = .ref C0 ∧ PySem.W.subIn K (.ref C0) (.ref D) = some true ∧
  ∀ x, H2 x = none → tb x { nx := fun _ _ => False, rt := Dn.rt } (σ.set i (some (.ref x))) (upd H2 x (ExcO C0 x))
section
variable {X : Cx} {pins : List (Addr × Obj)} {σ : St} {H : Hp} {s : Shared} {Q : VK} {EX : XK} {k i : Nat} {f D : Addr} {fd : FuncData} {ps : List Str} {sp : Sp} {us : List Value} {vs : List V}
theorem run_x (F : FnOk X.prog X.w X.K X.mg X.base (CX1 X.prog X.w) k f fd ps sp) (hr : Room k X.A) (hb : Binds X.K fd ps []) (I : Inv X pins σ H s) (r : Vals vs us) (h : sp vs H Q EX) :
    wpAny (model X.prog X.w) X.A (call (.ref f) us) (EP X pins σ Q) (fun e s' => CX1 X.prog X.w X.stack H s EX e s') s := by
  have hl : us.length = ps.length := by rw [← r.length]; exact F.len _ _ _ _ h
  have b := hb s us I.kIn (by rw [List.append_nil]; exact hl)
  rw [List.append_nil] at b
  refine wpAny_call (codeAny_mono (F.run X.A X.stack s H ⟨us, []⟩ us vs Q EX hr I.env0 b r h) fun r s' hq => ?_)
  cases r with
  | error e => exact hq
  | ok fl =>
    cases fl with
    | ret u => exact I.after hq
    | next => exact False.elim hq
    | brk => exact False.elim hq
    | cont => exact False.elim hq
variable {fn cx n : Str} {np cp ep xp hp pos : Pos} {a : Expr} {as : List Expr} {b₀ : Stmt} {suite : List Stmt} {t : TA} {tb : Addr → TS}
set_option maxHeartbeats 2000000 in
theorem ps_try (hs : X.stack = X.env :: X.outer) (hl : X.env.frame = some X.env.locals) (F : FnOk X.prog X.w X.K X.mg X.base (CX1 X.prog X.w) k f fd ps sp) (hr : Room k X.A) (hg : Gl X fn) (hm : X.mg fn = some (.ref f)) (hk : PySem.W.keepIn X.K (.ref f) = true) (hb : Binds X.K fd ps [])
    (ha : PA X.nox (a :: as) t) (hgx : Gl X cx) (hmx : X.mg cx = some (.ref D)) (hD : PySem.W.subIn X.K (.ref D) (.type "BaseException") = some true) (hD2 : (PySem.W.clsIn X.K D).isSome = true) (hD3 : PySem.W.typeIn X.K (.ref D) = some (.type "type"))
    (hN : X.N.Nodup) (hi : X.N[i]? = some n) (hn : X.env.scope.names.lookup n = some .local) (hB : ∀ x, PSs (X.suite x) (b₀ :: suite) (tb x)) (hdb : (fn == ("__debug__" : Str)) = false := by decide) (hdx : (cx == ("__debug__" : Str)) = false := by decide)
    (he : starEach (a :: as) X.env = (false, eval a X.env) :: starEach as X.env := by rfl) (hpl : (backTo cp (starEach as X.env)).any (·.1) = false := by rfl) (hsw : swapsWith (.Call (.Name fn np) (a :: as) [] cp) none ep.line X.env = pure false := by rfl) :
    PS X (.Try [.Expr (.Call (.Name fn np) (a :: as) [] cp) ep] [.ExceptHandler (some (.Name cx xp)) (some n) (b₀ :: suite) hp] [] [] pos) (tTry X.K D sp i t tb) := by
  intro pins s σ H Dn I h
  refine wpAny_Try_except ?_
  have body : wpAny (model X.prog X.w) X.A (execs [.Expr (.Call (.Name fn np) (a :: as) [] cp) ep] X.env) (fun fl s1 => fl = .next ∧ ∃ H2, Inv X pins σ H2 s1 ∧ Dn.nx σ H2)
      (fun e s1 => ∃ H1 s0, Inv X pins σ H1 s0 ∧ CX1 X.prog X.w X.stack H1 s0 (fun C _ H2 => ∃ C0, C = .ref C0 ∧ PySem.W.subIn X.K (.ref C0) (.ref D) = some true ∧ ∀ x, H2 x = none → tb x { nx := fun _ _ => False, rt := Dn.rt } (σ.set i (some (.ref x))) (upd H2 x (ExcO C0 x))) e s1) s := by
    refine wpAny_execs_cons (wpAny_Expr_any (wpAny_Call_Name_kw (ld_glob I hg hm ?_ hdb)) I.quiet hsw)
    refine PySem.W.callWith_K (h₀ := X.base) I.ok.mod.kin hk (wpAny_mono (ha cp pins s σ H _ (I.wish _) h) (fun us s1 z => ?_) fun _ _ z => z.elim) he hpl
    obtain ⟨vs, H1, I1, r, q⟩ := z
    have I1 := I1.unwish
    refine ⟨I1.kIn, wpAny_mono (run_x F hr hb I1 r q) (fun u s2 z => ?_) fun e s2 c => ⟨H1, s1, I1, c⟩⟩
    obtain ⟨v, H2, I2, _, q2⟩ := z
    exact wpAny_execs_nil ⟨rfl, H2, I2, q2⟩
  refine wpAny_mono body (fun fl s1 z => ?_) fun e s1 z => ?_
  · obtain ⟨rfl, H2, I2, q2⟩ := z
    exact wpAny_execs_nil ⟨σ, H2, I2, q2⟩
  obtain ⟨H1, s0, I0, x, T, C, H2, rfl, os, br, fl, u, C0, rfl, km, q⟩ := z
  have I1 := fl.inv I0 os br
  have fr := I1.stack
  have hfr := I1.ok.frames
  have free := I1.stkFree
  rw [hs] at fr hfr
  have fs : frs X.stack = (X.env :: X.outer).filterMap (·.frame) := by rw [hs]; rfl
  have note : ∀ Q' : Unit → Shared → Prop, (∀ g T2, Air g x T2 (.ref C0) (rawInt X.env.locals) → Fly X.prog X.w (frs X.stack) H1 H2 s0.heap g x T2 → Q' () { s1 with heap := g }) → wpAny (model X.prog X.w) X.A (noteFrame (.ref x) X.env) Q' X.xe s1 := fun Q' hq => by
    rcases u with ⟨rfl, oe, ws, e1, ⟨e2, e0⟩, e3, e4, e5⟩ | air
    · refine air_first hfr fr hl e1 e0 e3 e4 e5 fun g T2 a2 n2 j2 => hq g T2 (e2 ▸ a2) (fl.jump free (fs ▸ j2) (.inr n2))
    · exact air_next hfr fr hl air fun g T2 a2 n2 j2 => hq g T2 a2 (fl.jump free (fs ▸ j2) (.inr n2))
  have one : ∀ {g g' : Heap} {T2 : Addr}, (∀ b o, b ≠ T2 → g.get? b = some o → g'.get? b = some o) → Jump (frs X.stack) x T2 g g' := fun k => ⟨fun b o q _ nT _ => k b o nT q, fun b o q _ nT => ⟨o.slots, k b o nT q⟩⟩
  refine note _ fun g T2 a2 f2 => air_land (s := { s1 with heap := g }) a2 fun g3 a3 k3 _ => ?_
  have f3 := f2.jump free (one k3) (.inl rfl)
  have I3 : Inv X pins σ H2 { s1 with heap := g3 } := Fly.inv (s' := { s1 with heap := g3 }) I0 os br f3
  have I3' := I3.suite x
  obtain ⟨oe, ws, e1, ⟨e2, e0⟩, e3, _, e5⟩ := a3.e
  refine wpAny_handleBy_cons (codeAny_handlers_test (ld_glob (X := X.suite x) I3' hgx hmx (caught_by (s := { s1 with heap := g3 }) I3.kIn e1 e2 hD hD2 hD3 km ?_) hdx)) (by intro z; cases z)
  refine codeAny_handlers_suite_as (air_land (s := { s1 with heap := g3 }) a3 fun g4 a4 k4 _ => ?_)
  have f4 := f3.jump free (one k4) (.inl rfl)
  obtain ⟨un4, ok4⟩ := f4.track a4
  have I4 : Inv X pins σ (upd H2 x (ExcO C0 x)) { s1 with heap := g4 } := I0.call' (s' := { s1 with heap := g4 }) (ch := []) os un4 ok4 br fun _ z => nomatch z
  refine store_ok (X := X.suite x) (I4.suite x) hN hi (.inl hn) (v := .ref x) rfl (fun s5 I5 => ?_) (.inr hn)
  refine wpAny_mono (hB x pins s5 _ _ _ I5 (q x fl.x0)) (fun fw s6 z => ?_) fun _ _ z => z.elim
  cases fw with
  | ret uv =>
    obtain ⟨v, σ', H', J, r, qr⟩ := z
    have J' : Inv X pins σ' H' s6 := ⟨I.ok, J.os, J.bare, J.base, J.loc, J.cell, J.free, J.freeC, J.pin, J.hok, J.len⟩
    obtain ⟨m, hns, _⟩ := J'.loc
    exact wpAny_nameGoes hn hns (by rw [I.ok.kind]; rfl) fun h' m' hn' hs' => ⟨v, _, H', J'.names hn' hs', r, qr⟩
  | next =>
    obtain ⟨_, _, _, z⟩ := z
    exact z.elim
  | brk =>
    obtain ⟨_, _, _, z⟩ := z
    exact z.elim
  | cont =>
    obtain ⟨_, _, _, z⟩ := z
    exact z.elim
end
end L2
namespace L2
open PySem PySem.Spec PyProof.Rows
structure DefX (P : Program) (w : World) (K : PySem.W.Frag) (mg : Str → Option Value) (base : Heap) (k : Nat) (x : Str) (ps : List Str) (sp : Sp) : Prop where
  ex : ∃ f fd, FnOk P w K mg base (CX1 P w) k f fd ps sp ∧ mg x = some (.ref f) ∧ PySem.W.keepIn K (.ref f) = true ∧ Binds K fd ps []
/-- a function as a value -/
def CalC (CX : CXT) (P : Program) (w : World) (K : PySem.W.Frag) (mg : Str → Option Value) (base : Heap) (j : Nat) (f : Addr) (sp : Sp) : Prop :=
  ∃ k fd ps, FnOk P w K mg base CX k f fd ps sp ∧ k ≤ j ∧ PySem.W.keepIn K (.ref f) = true ∧ Binds K fd ps []
def tCallV (ok : Addr → Sp → Prop) (E : XK) (te : TE) (t : TA) : TE := fun σ H Q => te σ H fun v H1 => ∃ f sp, v = .ref f ∧ ok f sp ∧ t σ H1 fun vs H2 => sp vs H2 Q E
section
variable {X : Cx} {CX : CXT} {EX : XK} {k j : Nat} {x : Str} {ps : List Str} {sp : Sp} {fe e : Expr} {es : List Expr} {te : TE} {t : TA} {p pos : Pos}
theorem pe_callX (C : DefX X.prog X.w X.K X.mg X.base k x ps sp) (hr : Room j X.A) (hg : Gl X x) (ha : PA (X.may EX) (e :: es) t) (hk : k ≤ j := by decide) (hdb : (x == ("__debug__" : Str)) = false := by decide)
    (he : starEach (e :: es) X.env = (false, eval e X.env) :: starEach es X.env := by rfl) (hpl : (backTo pos (starEach es X.env)).any (·.1) = false := by rfl) : PE (X.may EX) (.Call (.Name x p) (e :: es) [] pos) (tCall sp [] EX t) := by
  obtain ⟨f, fd, F, hm, hkp, hb⟩ := C.ex
  exact pe_call (X := X.may EX) (F.mono hk) hr hg hm hkp hb .nil pass1 ha hdb he hpl
theorem pe_callV (hr : Room j X.A) (hx : Passes CX X EX) (hf : PE X fe te) (ha : PA X (e :: es) t)
    (hev : eval (.Call fe (e :: es) [] pos) X.env = (do callWith pos (← eval fe X.env) [] (backTo pos (starEach (e :: es) X.env)) (backToKw pos (keywordEach [] X.env))) := by rfl)
    (he : starEach (e :: es) X.env = (false, eval e X.env) :: starEach es X.env := by rfl) (hpl : (backTo pos (starEach es X.env)).any (·.1) = false := by rfl) :
    PE X (.Call fe (e :: es) [] pos) (tCallV (CalC CX X.prog X.w X.K X.mg X.base j) EX te t) := by
  intro pins s σ H Q I h
  rw [hev]
  refine wpAny_bind (thn (hf pins s σ H _ I h) fun u s1 ⟨v, H1, I1, r1, f, sp, ev, ⟨k, fd, ps, F, hk, kp, hb⟩, q⟩ => ?_)
  subst ev
  obtain rfl : u = Value.ref f := r1
  refine PySem.W.callWith_K (h₀ := X.base) I.ok.mod.kin kp (thn (ha pos pins s1 σ H1 _ I1 q) fun us s2 ⟨vs, H2, I2, r, q2⟩ => ⟨I2.kIn, ?_⟩) he hpl
  exact run_fn (F.mono hk) hr hb .nil hx I2 r (by rw [List.append_nil]; exact q2)
/-- a text n times -/
def rRepT : R2 := fun x y H Q => ∃ z n, x = .str z ∧ y = .int n ∧ (1 ≤ n ∧ n ≤ 1000 ∧ z.length ≤ 1000) ∧ Q (.str (Txt.mul z n)) H
theorem op_rep_str : OpR X (binaryOp .Mult) rRepT := by
  intro pins s σ H x y v u Q I rx ry h
  obtain ⟨z, n, rfl, rfl, ⟨h1, h2, h3⟩, q⟩ := h
  obtain ⟨t, rfl⟩ := rx
  obtain ⟨t', rfl⟩ := ry
  refine SB.mul ⟨?_, fun _ _ => ?_, fun _ _ => ?_⟩ fun t2 k => ⟨.str (Txt.mul z n), H, I.tok k, ⟨t2, rfl⟩, q⟩
  · rw [decide_eq_false (by omega), decide_eq_false (by omega)]
    rfl
  · have : (9223372036854775807 : Int) / n ≥ 1000 := by
      rw [ge_iff_le, Int.le_ediv_iff_mul_le (by omega)]
      omega
    have e : ((2 : Int) ^ 63 - 1) / n = 9223372036854775807 / n := rfl
    omega
  · have : z.length * n.toNat ≤ 1000 * 1000 := Nat.mul_le_mul h3 (by omega)
    unfold Builtin.Str.tooLong
    rw [decide_eq_false]
    have : (1000 * 1000 : Nat) ≤ sizeLine := by decide
    omega
end
/-- what is asked of its class -/
structure Xc (K : PySem.W.Frag) (C : Addr) : Prop where
  ga : PySem.W.findIn K (.ref C) "__getattribute__" = some (some (.builtin "BaseException.__getattribute__"))
  gt : PySem.W.findIn K (.ref C) "__getattr__" = some none
  cl : PySem.W.findObj K C none "__class__" = some (.bind (.builtin "getset_descriptor.__get__") (.builtin "object.__class__"))
  hm : PySem.W.mroIn K C (.type "object") = some true
  hb : PySem.W.subIn K (.ref C) (.type "BaseException") = some true
  it : (PySem.W.clsIn K C).isSome = true
section
variable {prog : Program} {w : World} {A : Around} {E : Value → Shared → Prop} {s : Shared} {K : PySem.W.Frag} {x C : Addr} {ox : Obj} {vs : Array Value}
theorem exc_ca {Q : Option Value → Shared → Prop} (k : Xc K C) (X : K.In s.heap) (he : s.heap.get? x = some ox) (hc : ox.cls = .ref C) (h0 : ox.dict = none) (hd : ox.data = .fields vs) (h : Q (some (.ref C)) { s with toks := s.toks + 1 }) :
    wpAny (model prog w) A (getAttr? (.ref x) "__class__") Q E s := by
  obtain ⟨hh, g, d, t, os⟩ := s
  have I : PySem.W.InstAt hh x ox C none := ⟨he, hc, by unfold PySem.W.notCls; rw [hd], by rw [h0]; trivial⟩
  have L0 := I.type (M := model prog w)
  have L1 := PySem.W.looks_findIn (M := model prog w) X k.ga
  have L2 := PySem.W.looks_findIn (M := model prog w) X k.gt
  have L3 := PySem.W.looks_find (M := model prog w) X I k.cl
  have L4 : PySem.W.Looks (model prog w) hh (isInstance (.ref x) (.type "BaseException")) true := L0.andThen (PySem.W.looks_subIn X k.hb)
  have FB := PySem.F.excAttr_ValueError
  have hk : builtinKind "BaseException.__getattribute__" = some .slot := by decide +kernel
  have hsp : splitId "BaseException.__getattribute__" = some ("BaseException", "__getattribute__") := by decide +kernel
  unfold getAttr? getAttrBy? getAttrBy
  refine wpAny_bind (wpAny_mkText (wpAny_bind (wpAny_attempt (wpAny_holding (wpAny_bind (L0.at (wpAny_bind (L1.at ?_))))))))
  show wpAny _ _ (getAttrByItsOwn _ _ _ _ _ _) _ _ _
  unfold getAttrByItsOwn
  refine wpAny_bind (L2.at (wpAny_bind (wpAny_attempt (wpAny_holding ?_))))
  show wpAny _ _ (boundAndCalled _ _ _) _ _ _
  unfold boundAndCalled
  refine wpAny_bind (wpAny_of_eq (FB.ga.bind _) (wpAny_call (codeAny_call_builtin FB.ga.plain F.entry_bexc_ga ?_)))
  have ha := F.args_bexc_ga (.ref x) (.str "__class__" t)
  simp only [checkBuiltinCall, hk, hsp]
  refine wpAny_bind (L4.at ?_)
  simp only [Bool.not_true, Bool.false_eq_true, if_false]
  refine wpAny_of_eq (a := ()) ha ?_
  unfold Builtin.«object.__getattribute__»
  refine wpAny_bind (wpAny_pure (wpAny_bind (wpAny_pure (wpAny_bind (L0.at (wpAny_bind (L3.at ?_)))))))
  show wpAny _ _ (Builtin.ObjectAttr.bindTo _ _ _ _) _ _ _
  unfold Builtin.ObjectAttr.bindTo
  refine wpAny_bind (wpAny_holding (wpAny_call (PySem.W.class_get (s := ⟨hh, g, d, t + 1, os⟩) (ox := ox) (od := none) X I k.hm ?_)))
  exact wpAny_pure (wpAny_pure (wpAny_pure h))
/-- its own object, for isinstance -/
def ExcAt (x C : Addr) (h : Heap) : Prop := ∃ ox vs, h.get? x = some ox ∧ (ox.cls = .ref C ∧ ox.dict = none) ∧ ox.data = .fields vs
theorem kitx_exc (k : Xc K C) : PySem.W.KitX K (.ref x) (.ref C) (ExcAt x C) where
  ty := fun M h _ p => by
    obtain ⟨ox, vs, e, ⟨c, _⟩, _⟩ := p
    exact c ▸ (PySem.W.Looks.ld e).andThen .now
  it := fun _ _ X _ => by
    have q := k.it
    unfold PySem.W.clsIn at q
    split at q
    · rename_i c' d' cd' sl' ho
      intro A' Q' E' s' kk z
      unfold isType loadHead
      exact wpAny_bind (wpAny_loadPart (kk _ _ (X _ _ ho)) (wpAny_pure z))
    · cases q
  ne := fun h tp dd its n sl X htp => by
    refine Bool.eq_false_iff.mpr fun q => ?_
    have e : C = tp := Value.ref.inj (beq_iff_eq.mp q)
    subst e
    have q := k.it
    unfold PySem.W.clsIn at q
    split at q
    · rename_i c' d' cd' sl' ho
      have z := (X _ _ ho).symm.trans htp
      cases z
    · cases q
  ca := fun X p h => by
    obtain ⟨ox, vs, e, ⟨c, d⟩, f⟩ := p
    exact exc_ca k X e c d f h
end
section
variable {X : Cx}
def rIsiX (K : PySem.W.Frag) : List V → Hp → VK → Prop := fun xs H Q => ∃ x C b, H x = some (ExcO C x) ∧ Xc K C ∧ ((∃ D, xs = [.ref x, .ref D] ∧ PySem.W.kitOne K (.ref C) (.ref D) = some b) ∨ ∃ T, xs = [.ref x, .ty T] ∧ PySem.W.kitOne K (.ref C) (.type T) = some b) ∧ Q (.bl b) H
theorem call_isiX : CallR X (.builtin "isinstance") (rIsiX X.K) := by
  intro pins s σ H xs us Q I r h
  obtain ⟨x, C, b, hx, k, hc, q⟩ := h
  obtain ⟨⟨oe, vs, e1, e2, e3, _⟩, _⟩ := I.hok x _ hx
  have p : ExcAt x C s.heap := ⟨oe, vs, e1, e2, e3⟩
  rcases hc with ⟨D, rfl, e⟩ | ⟨T, rfl, e⟩
  · obtain ⟨u, v, rfl, ru, rv⟩ := vals2 r
    obtain rfl : u = Value.ref x := ru
    obtain rfl : v = Value.ref D := rv
    exact PySem.W.kia_one (kitx_exc k) I.kIn p e (fun z => nomatch z) fun tk => ⟨.bl b, H, I.tok _, rfl, q⟩
  · obtain ⟨u, v, rfl, ru, rv⟩ := vals2 r
    obtain rfl : u = Value.ref x := ru
    obtain rfl : v = Value.type T := rv
    exact PySem.W.kia_one (kitx_exc k) I.kIn p e (fun z => nomatch z) fun tk => ⟨.bl b, H, I.tok _, rfl, q⟩
end
end L2
namespace L2
open PySem PySem.Spec PyProof.Rows
section
variable {X : Cx} {k j : Nat} {x : Str} {ps : List Str} {sp : Sp} {e : Expr} {es : List Expr} {t : TA} {p pos : Pos}
theorem passF : Passes (CX1 X.prog X.w) X E0 := fun _ _ _ _ _ _ _ c => by
  obtain ⟨_, _, _, _, _, _, _, _, _, q⟩ := c
  exact q.elim
/-- a def that may raise, where it does not -/
theorem pe_callXF (C : DefX X.prog X.w X.K X.mg X.base k x ps sp) (hr : Room j X.A) (hg : Gl X x) (ha : PA X (e :: es) t) (hk : k ≤ j := by decide) (hdb : (x == ("__debug__" : Str)) = false := by decide)
    (he : starEach (e :: es) X.env = (false, eval e X.env) :: starEach es X.env := by rfl) (hpl : (backTo pos (starEach es X.env)).any (·.1) = false := by rfl) : PE X (.Call (.Name x p) (e :: es) [] pos) (tCall sp [] E0 t) := by
  obtain ⟨f, fd, F, hm, hkp, hb⟩ := C.ex
  exact pe_call (F.mono hk) hr hg hm hkp hb .nil passF ha hdb he hpl
end
end L2
namespace L2
open PySem PySem.Spec PyProof.Rows
section
variable {X : Cx} {e a b : Expr} {es xs : List Expr} {te : TE} {t : TA} {p : Pos}
theorem pa_consL (ha : PE X (.List xs p) te) (hr : PA X es t) : PA X (.List xs p :: es) (tCons te t) := pa_cons ha hr rfl
theorem pa_consT {k : Nat} (ha : PE X (.Tuple xs k p) te) (hr : PA X es t) : PA X (.Tuple xs k p :: es) (tCons te t) := pa_cons ha hr rfl
theorem pa_consD {ks : List (Option Expr)} (ha : PE X (.Dict ks xs p) te) (hr : PA X es t) : PA X (.Dict ks xs p :: es) (tCons te t) := pa_cons ha hr rfl
theorem pa_consN {n : Str} (ha : PE X (.Name n p) te) (hr : PA X es t) : PA X (.Name n p :: es) (tCons te t) := pa_cons ha hr rfl
theorem pa_consB {o : Operator} (ha : PE X (.BinOp a o b p) te) (hr : PA X es t) : PA X (.BinOp a o b p :: es) (tCons te t) := pa_cons ha hr rfl
theorem pa_consU {o : UnaryOp} (ha : PE X (.UnaryOp o a p) te) (hr : PA X es t) : PA X (.UnaryOp o a p :: es) (tCons te t) := pa_cons ha hr rfl
theorem pa_consK {c : Const} {k : Nat} (ha : PE X (.Constant c k p) te) (hr : PA X es t) : PA X (.Constant c k p :: es) (tCons te t) := pa_cons ha hr rfl
end
end L2
namespace L2
open PySem PySem.Spec PyProof.Rows
section
variable {X : Cx} {sc : Scope} {N : List Str} {lift : List (Option Nat)} {elt tg iter : Expr} {ifs : List Expr} {pos : Pos} {wi : TI} {g : TG} {tc : TT} {te : TE}
/-- the block, from its iterator on, whatever is looked after -/
theorem comp_blockG {pins : List (Addr × Obj)} {σ : St} {s : Shared} {H : Hp} {R : List V → Hp → Prop} {RR : Result → Shared → Prop} {it : Addr} {fp : List Addr} {tn : Nat → Heap → Prop} {J : It}
    (S : CompSc X.env.scope sc X.N N lift) (hg : ∀ b, PG (cxComp X sc N b) tg g) (ht : ∀ b, PIf (cxComp X sc N b) ifs tc) (he : ∀ b, PE (cxComp X sc N b) elt te)
    (I : Inv X pins σ H s) (ob : ∀ i h, tn i h → ∀ b ∈ fp, ∃ o, h.get? b = some o ∧ ∀ v, o.data ≠ .cell v) (ke : ∀ i h h', tn i h → (∀ b ∈ fp, ∀ o, h.get? b = some o → h'.get? b = some o) → tn i h')
    (ti : ∀ (i : Nat) (pl : List (Addr × Obj)) (s3 : Shared) (σ3 : St) (H3 : Hp) (E : Value → Shared → Prop), Inv (cxComp X sc N (cbOf s H fp)) pl σ3 H3 s3 → (∀ b ∈ fp, FpOk (cxComp X sc N (cbOf s H fp)) pl H3 b) → tn i s3.heap → J.go i H3 →
      wpAny (model X.prog X.w) X.A (pyNext (.ref it)) (fun r s1 => ∃ u, r = some u ∧ wpAny (model X.prog X.w) X.A (letOwnedTupleGo tg (.ref it) u) (fun _ s2 => ∃ x H', Inv (cxComp X sc N (cbOf s H fp)) pl σ3 H' s2 ∧ RelV x u ∧ J.yld i H3 x H' ∧ tn (i + 1) s2.heap ∧ ∀ b ∈ fp, H' b = none) E s1) E s3)
    (td : ∀ (i : Nat) (pl : List (Addr × Obj)) (s3 : Shared) (σ3 : St) (H3 : Hp) (E : Value → Shared → Prop), Inv (cxComp X sc N (cbOf s H fp)) pl σ3 H3 s3 → (∀ b ∈ fp, FpOk (cxComp X sc N (cbOf s H fp)) pl H3 b) → tn i s3.heap → J.stop i H3 →
      wpAny (model X.prog X.w) X.A (pyNext (.ref it)) (fun r s1 => r = none ∧ Inv (cxComp X sc N (cbOf s H fp)) pl σ3 H3 s1) E s3)
    (se : ∀ (A : Around) (i : Nat) (s3 : Shared) (Q : Value → Shared → Prop) (E : Value → Shared → Prop), tn i s3.heap → Q (.ref it) s3 → wpAny (model X.prog X.w) A (pyIter (.ref it)) Q E s3) (st : tn 0 s.heap) (hf : ∀ b ∈ fp, FpOk X pins H b) (hq : CompW J (liftσ lift σ) g tc te H R)
    (fin : ∀ (acc : List V) (H' : Hp) (s' : Shared), Inv X pins σ (upd H' s.heap.objs.size (.lst acc)) s' → H' s.heap.objs.size = none → H' (accS s).heap.objs.size = none → (∃ m, s'.heap.Ns (accS s).heap.objs.size m) → R acc H' → RR (.ok .next) s') :
    codeAny (model X.prog X.w) X.A (.compStart (.ListComp elt [⟨tg, iter, ifs, 0⟩] sc pos) 0 (.ref it) (.ref s.heap.objs.size) (compE X.env sc (accS s).heap.objs.size)) RR (inS s sc) := by
  obtain ⟨W, ⟨m0, w0⟩, turn⟩ := hq
  have ho : ∀ b ∈ fp, b < s.heap.objs.size := fun b hb => let ⟨o, e, _⟩ := ob 0 _ st b hb; Heap.lt_size e
  have Dfp : s.heap.objs.size ∉ fp := fun z => Nat.lt_irrefl _ (ho _ z)
  have I0 := I.comp_in S hf ho
  have st0 : tn 0 (inS s sc).heap := ke _ _ _ st fun b _ o e => inS_keep s sc b o (accS_keep s b o e)
  -- the iterator's objects, in the block
  have stat : ∀ {pl : List (Addr × Obj)} {H' : Hp}, (∀ p ∈ pl, p.1 = s.heap.objs.size) → (∀ b ∈ fp, H' b = none) → ∀ b ∈ fp, FpOk (cxComp X sc N (cbOf s H fp)) pl H' b := fun {pl H'} hpl hn b hb => by
    refine ⟨hn b hb, (I0.ok.exf b (List.mem_cons_of_mem _ hb)).1, I0.ok.exfs b (List.mem_cons_of_mem _ hb), .inl (List.mem_cons_of_mem _ hb), (I0.ok.exf b (List.mem_cons_of_mem _ hb)).2, fun p hp => ?_⟩
    have hp' : p ∈ pl := by simpa [cxComp] using hp
    rw [hpl p hp']
    exact fun z => Dfp (z ▸ hb)
  have one : ∀ (o : Obj), ∀ p ∈ [(s.heap.objs.size, o)], p.1 = s.heap.objs.size := fun o p hp => by rw [List.mem_singleton.mp hp]
  have loop : codeAny (model X.prog X.w) X.A (.compLoop (.ListComp elt [⟨tg, iter, ifs, 0⟩] sc pos) 0 (.ref it) (.ref s.heap.objs.size) (compE X.env sc (accS s).heap.objs.size)) RR (inS s sc) := by
    refine comp_turns (fun n s' => ∃ i acc its k H', Inv (cxComp X sc N (cbOf s H fp)) [(s.heap.objs.size, accObj its k)] (liftσ lift σ) H' s' ∧ Vals acc its ∧ acc.length ≤ sizeLine ∧ tn i s'.heap ∧ (∀ b ∈ fp, H' b = none) ∧ W i n acc H') ?_ m0
      ⟨0, [], [], 0, H, I0, .nil, Nat.zero_le _, st0, fun b hb => (hf b hb).1, w0⟩
    rintro n s3 ⟨i, acc, its, k, H3, I3, rv, hz, st3, fr3, w3⟩
    rcases turn i n acc H3 w3 with ⟨stop, qn⟩ | ⟨go, hlt, M, hM, step⟩
    · refine thn (td i _ s3 _ H3 _ I3 (stat (one _) fr3) st3 stop) fun r s4 ⟨hr, I4⟩ => ?_
      subst hr
      obtain ⟨m4, hn4, _⟩ := I4.loc
      exact fin acc H3 s4 (I.comp_out hf ho I4 rv hz) (I4.pin (s.heap.objs.size, accObj its k) (by simp)).2.1 I4.free ⟨m4, hn4⟩ qn
    · refine thn (ti i _ s3 _ H3 _ I3 (stat (one _) fr3) st3 go) fun r s4 ⟨u, hr, h4⟩ => ?_
      subst hr
      refine thn h4 fun _ s5 ⟨x, H5, I5, r5, y5, st5, fr5⟩ => ?_
      have I5' := I5.pinned (stat (one _) fr5) (ob _ _ st5)
      refine thn (hg _ _ s5 _ H5 x u _ I5' r5 (step x H5 y5)) fun _ s6 ⟨σ6, H6, I6, q6⟩ => ?_
      refine thn (ht _ _ s6 σ6 H6 _ I6 q6) fun b s7 ⟨H7, I7, q7⟩ => ?_
      -- the records through the turn
      have next : ∀ {σ8 : St} {H8 : Hp} {s8 : Shared} {its' : List Value} {k' : Nat}, Inv (cxComp X sc N (cbOf s H fp)) ([(s.heap.objs.size, accObj its' k')] ++ pinsAt fp s5.heap) σ8 H8 s8 →
          Inv (cxComp X sc N (cbOf s H fp)) [(s.heap.objs.size, accObj its' k')] (liftσ lift σ) H8 s8 ∧ tn (i + 1) s8.heap ∧ ∀ b ∈ fp, H8 b = none := fun {σ8 H8 s8 its' k'} I8 => by
        refine ⟨I.relift S I8.unpinned hf, ke _ _ _ st5 fun b hb o e => (I8.pin (b, o) (List.mem_append_right _ (List.mem_append_right _ (mem_pinsAt hb e)))).1, fun b hb => ?_⟩
        obtain ⟨o, e, d⟩ := ob _ _ st5 b hb
        exact (I8.pin (b, o) (List.mem_append_right _ (List.mem_append_right _ (mem_pinsAt hb e)))).2.1
      cases b with
      | false =>
        rw [if_neg Bool.false_ne_true] at q7 ⊢
        obtain ⟨m', hm, w7⟩ := hM _ _ q7
        obtain ⟨a1, a2, a3⟩ := next I7
        exact ⟨m', hm, i + 1, acc, its, k, H7, a1, rv, hz, a2, a3, w7⟩
      | true =>
        rw [if_pos rfl] at q7 ⊢
        refine thn (he _ _ s7 σ6 H7 _ I7 q7) fun y s8 ⟨v, H8, I8, r8, q8⟩ => ?_
        obtain ⟨m', hm, w8⟩ := hM _ _ q8
        obtain ⟨eD, nD, _⟩ := I8.pin (s.heap.objs.size, accObj its k) (by simp)
        have hl := rv.length
        refine call_meets F.slot_list_append ⟨_, eD, rfl⟩ F.entry_list_append (F.args_list_append_2 _ _) (PySem.list_append s.heap.objs.size its.toArray k y (by rw [List.size_toArray]; omega)) ⟨eD, ?_⟩
        -- the list has grown
        have e9 := PySem.IsL.update eD (fun a : Array Value => a.push y)
        generalize (if ((its.toArray.push y).size == its.toArray.size) = true then k else k + 1) = k9 at e9
        have I9 : Inv (cxComp X sc N (cbOf s H fp)) (pinsAt fp s5.heap) σ6 H8 { s8 with heap := s8.heap.update s.heap.objs.size (Obj.mapSeq fun a => a.push y), toks := s8.toks } := by
          have J : Inv (cxComp X sc N (cbOf s H fp)) (pinsAt fp s5.heap) σ6 H8 s8 := I8.pins_of fun p hp => I8.pin p (List.mem_append_right _ (List.mem_append_right _ hp))
          refine J.turned (it := s.heap.objs.size) (fun b o hb e => (Heap.get?_update_other _ _ (Ne.symm hb)).trans e) nD (J.ok.exf _ List.mem_cons_self).1 (.inl List.mem_cons_self) (J.ok.exf _ List.mem_cons_self).2 fun p hp z => ?_
          have hp' : p ∈ pinsAt fp s5.heap := by simpa [cxComp] using hp
          exact Dfp (z ▸ (of_pinsAt hp').1)
        have I10 : Inv (cxComp X sc N (cbOf s H fp)) ([(s.heap.objs.size, accObj (its ++ [y]) k9)] ++ pinsAt fp s5.heap) σ6 H8 { s8 with heap := s8.heap.update s.heap.objs.size (Obj.mapSeq fun a => a.push y), toks := s8.toks } := by
          refine I9.pins_of fun p hp => ?_
          rcases List.mem_append.mp hp with z | z
          · rw [List.mem_singleton.mp z]
            refine ⟨?_, nD, (I9.ok.exf _ List.mem_cons_self).1, I9.ok.exfs _ List.mem_cons_self, fun v z => by cases z⟩
            show (s8.heap.update s.heap.objs.size (Obj.mapSeq fun a => a.push y)).get? s.heap.objs.size = some (accObj (its ++ [y]) k9)
            rw [show accObj (its ++ [y]) k9 = { cls := .type "list", data := .seq (its.toArray.push y) k9 } by simp [accObj]]
            exact e9
          · exact I9.pin p (List.mem_append_right _ z)
        obtain ⟨a1, a2, a3⟩ := next I10
        exact ⟨m', hm, i + 1, acc ++ [v], its ++ [y], k9, H8, a1, rv.append (.cons r8 .nil), by rw [List.length_append, List.length_singleton]; omega, a2, a3, w8⟩
  exact codeAny_compStart_list loop (se _ 0 _ _ _ st0 loop)

/-- below n, the exception at x being looked after -/
def ItH (x : Addr) (n : Nat) : It := ⟨fun i _ => i < n, fun i H y H' => H' = H ∧ y = .int i, fun i H => n ≤ i ∧ ∃ C, H x = some (ExcO C x)⟩
def iRngH (x : Addr) (n : Nat) (ta : TA) : TI := fun σ H R => ta σ H fun vs H1 => vs = [.int (n : Int)] ∧ n ≤ 1000 ∧ R (ItH x n) H1
theorem pe_compH {x : Addr} {n : Nat} {a : Expr} {ta : TA} {p cp : Pos} (hh : X.A.handled = some (.ref x)) (S : CompSc X.env.scope sc X.N N lift) (hgl : Gl X "range") (hm : X.mg "range" = none) (ha : PA X [a] ta) (hg : ∀ b, PG (cxComp X sc N b) tg g) (ht : ∀ b, PIf (cxComp X sc N b) ifs tc) (he : ∀ b, PE (cxComp X sc N b) elt te)
    (hst : starEach [a] X.env = [(false, eval a X.env)] := by rfl) (hs : ∀ y, foldedSetIterable (.Call (.Name "range" p) [a] [] cp) X.env y = pure y := by intro _; rfl) :
    PE X (.ListComp elt [⟨tg, .Call (.Name "range" p) [a] [] cp, ifs, 0⟩] sc pos) (tComp lift (iRngH x n ta) g tc te) := by
  intro pins s σ H Q I h
  rw [eval_ListComp]
  refine wpAny_comprehension_free (use := none) rfl hs (closureFor_cells (I.hasCell S)) S.kind S.loc ?_
  refine Call_ (ld_blt I hgl hm boot_range (PyProof.Rows.callWith_type1 (thn (ha cp pins s σ H _ I h) fun us s1 ⟨vs, H1, I1, r1, ev, hn, hq⟩ => ?_) hst rfl))
  subst ev
  obtain ⟨u, rfl, t, rfl⟩ := vals1 r1
  refine call_range_1 ?_
  refine wpAny_pyIter_range (IsRange.new ..) (small_one (by omega) (by omega) (by omega) (by omega)) ?_
  refine wpAny_newObj_type (wpAny_compEnv ?_)
  obtain ⟨g1, hg1⟩ : ∃ g1, s1.heap.push { cls := .type "range", data := .fields #[.int 0 s1.toks, .int (n : Int) t, .int 1 (s1.toks + 1)] } = g1 := ⟨_, rfl⟩
  have I2 : Inv X pins σ H1 { s1 with heap := g1.push { cls := .type "range_iterator", data := .fields #[rawInt 0, rawInt (Builtin.Range.rangeSize 0 (n : Int) 1), rawInt 1] }, toks := s1.toks + 1 + 1 } :=
    I1.kept fun b o q => Heap.get?_push_of_some _ (by rw [← hg1]; exact Heap.get?_push_of_some _ q)
  have st : IsRangeIter (g1.push { cls := .type "range_iterator", data := .fields #[rawInt 0, rawInt (Builtin.Range.rangeSize 0 (n : Int) 1), rawInt 1] }) g1.objs.size ((0 : Int) + ((0 : Nat) : Int) * 1) ((n : Int) - ((0 : Nat) : Int)) 1 := by
    have e1 : (0 : Int) + ((0 : Nat) : Int) * 1 = 0 := by simp
    have e2 : (n : Int) - ((0 : Nat) : Int) = Builtin.Range.rangeSize 0 (n : Int) 1 := by rw [rangeSize_one]; split <;> omega
    rw [e1, e2]
    exact Heap.get?_push_size _ rfl
  have fr : H1 g1.objs.size = none := I1.hok.fresh (by rw [← hg1, Heap.size_push]; exact Nat.le_succ _)
  have hf : ∀ b ∈ [g1.objs.size], FpOk X pins H1 b := fun b hb => by
    obtain rfl : b = g1.objs.size := by simpa using hb
    exact I1.fpOk (by rw [← hg1, Heap.size_push]; exact Nat.le_succ _) fr
  show codeAny _ _ (.compStart _ 0 (.ref (s1.heap.push _).objs.size) _ _) _ _
  rw [hg1]
  generalize hs2 : ({ s1 with heap := g1.push { cls := .type "range_iterator", data := .fields #[rawInt 0, rawInt (Builtin.Range.rangeSize 0 (n : Int) 1), rawInt 1] }, toks := s1.toks + 1 + 1 } : Shared) = s2 at I2
  have st2 : IsRangeIter s2.heap g1.objs.size ((0 : Int) + ((0 : Nat) : Int) * 1) ((n : Int) - ((0 : Nat) : Int)) 1 := by rw [← hs2]; exact st
  have hA : X.A.handled = some (.ref x) := hh
  show codeAny (model X.prog X.w) X.A (.compStart _ 0 (.ref g1.objs.size) (.ref s2.heap.objs.size) (compE X.env sc (accS s2).heap.objs.size)) _ (inS s2 sc)
  refine comp_blockG (s := s2) (fp := [g1.objs.size]) (J := ItH x n) (tn := fun i h => IsRangeIter h g1.objs.size ((0 : Int) + (i : Nat) * 1) ((n : Int) - (i : Nat)) 1) S hg ht he I2 (fun i h z b hb => ?_) (fun i h h' z k => k g1.objs.size (by simp) _ z) (fun i pl s3 σ3 H3 E I3 hf3 z go => ?_) (fun i pl s3 σ3 H3 E I3 hf3 z stop => ?_) (fun _ _ _ _ _ z h => wpAny_pyIter_rangeiter z h) st2 hf hq fun acc H' s' I' nD nC hn q => ?_
  · obtain rfl : b = g1.objs.size := by simpa using hb
    exact ⟨_, z, fun v y => by
      have y' : Data.fields _ = Data.cell v := y
      cases y'⟩
  · obtain ⟨f0, f1, f2, f3, f4, f5⟩ := hf3 g1.objs.size (by simp)
    have go' : i < n := go
    refine wpAny_pyNext_range_item z (by omega) fun h' st' sb => ?_
    have I4 := I3.turned (h' := h') (t' := s3.toks + 1) (fun b o hb e => (sb.2 b hb).trans e) f0 f1 f3 f4 f5
    have e3 : (0 : Int) + (i : Nat) * 1 + 1 = (0 : Int) + ((i + 1 : Nat) : Int) * 1 := by omega
    have e4 : (n : Int) - (i : Nat) - 1 = (n : Int) - ((i + 1 : Nat) : Int) := by omega
    rw [e3, e4] at st'
    refine ⟨_, rfl, go_of (s := { s3 with heap := h', toks := s3.toks + 1 }) (n := "range_iterator") st' rfl rfl (by decide) ⟨.int i, H3, I4, ⟨s3.toks, ?_⟩, ⟨rfl, rfl⟩, st', fun b hb => (hf3 b hb).1⟩⟩
    rw [Int.mul_one, Int.zero_add]
  · obtain ⟨f0, f1, f2, f3, f4, f5⟩ := hf3 g1.objs.size (by simp)
    obtain ⟨stop', C, hC⟩ := stop
    obtain ⟨⟨oe, ws, e5, _, e6, e7⟩, _⟩ := I3.hok x _ hC
    exact range_end_h hA e5 e6 e7 z (by omega) fun g k => ⟨rfl, I3.kept (t' := s3.toks) k⟩
  · obtain ⟨m, hn⟩ := hn
    refine ⟨m, hn, fun h' hs' => ⟨.ref s2.heap.objs.size, _, I2.comp_let (C := (accS s2).heap.objs.size) (by rw [accS_size]; exact Nat.le_succ _) I' ?_ hs', rfl, q _ nD⟩⟩
    rw [upd_ne (by rw [accS_size]; exact Nat.ne_of_gt (Nat.lt_succ_self _))]
    exact nC
end
end L2
namespace Wa
open PySem PySem.Spec PyProof.Rows L2
def top (i : Nat) : Stmt := PySem.Challenge.pw_wholeahead_k07_refused.main.body.getD i (.Pass ⟨0, 0, 0, 0⟩)
/-- a table's rows as values -/
def tabV (t : Tab) : List V := t.map fun r => V.str (rowS r)
theorem tabV_len (t : Tab) : (tabV t).length = t.length := by unfold tabV; rw [List.length_map]
theorem tabV_get {t : Tab} {i : Nat} {r : List Bool} (h : t[i]? = some r) : (tabV t)[i]? = some (.str (rowS r)) := by unfold tabV; rw [List.getElem?_map, h]; rfl
/-- a small table, w signs a row -/
structure Tb (K : PySem.W.Frag) (H : Hp) (a : Addr) (t : Tab) (w : Nat) : Prop where
  at' : SqL K H a (tabV t)
  wid : Wid t w
  len : t.length ≤ 100
  wl : w ≤ 100
theorem Tb.same {K : PySem.W.Frag} {H H' : Hp} {a : Addr} {t : Tab} {w : Nat} (h : Tb K H a t w) (s : Same H H') : Tb K H' a t w := ⟨s.seq h.at', h.wid, h.len, h.wl⟩
theorem Tb.size {K : PySem.W.Frag} {H : Hp} {a : Addr} {t : Tab} {w : Nat} (h : Tb K H a t w) : (tabV t).length ≤ sizeLine := by rw [tabV_len]; exact Nat.le_trans h.len (by decide)
theorem Tb.row {K : PySem.W.Frag} {H : Hp} {a : Addr} {t : Tab} {w i : Nat} {r : List Bool} (h : Tb K H a t w) (e : t[i]? = some r) : r.length = w := h.wid r (List.mem_of_getElem? e)
theorem row_size {r : List Bool} (h : r.length ≤ 100) : (rowS r).length ≤ sizeLine := by rw [rowS_len]; exact Nat.le_trans h (by decide)
def spWidth (K : PySem.W.Frag) : Sp := fun vs H Q _ => ∃ a t w, vs = [.ref a] ∧ Tb K H a t w ∧ Q (.int (widT t)) H
/-- a count below n -/
def isT (n : Nat) (u : Int) : Bool := decide (0 ≤ u) && decide (u < (n : Int))
def colT (t : Tab) (j : Nat) : List Bool := t.map fun r => r.getD j false
def spColumn (K : PySem.W.Frag) : Sp := fun vs H Q _ => ∃ a t w j, vs = [.ref a, .int (j : Nat)] ∧ Tb K H a t w ∧ j < w ∧ ∀ H', Same H H' → Q (.str (rowS (colT t j))) H'
def aheadL (t : Tab) (j : Nat) : List Int := (List.range t.length).filterMap fun k => if (t.getD k []).getD j false = true then some (k : Int) else none
theorem widT_cons (r : List Bool) (t : Tab) : widT (r :: t) = r.length := rfl
theorem wid_self {t : Tab} (h : Wid t t.length) : widT t = t.length := by
  cases t with
  | nil => rfl
  | cons r t => exact h r List.mem_cons_self
/-- one sign of a row -/
theorem row_at {r : List Bool} {j : Nat} (h : j < r.length) : atI (rowS r).cps.toList (j : Int) = some (sgn (r.getD j false)) := by
  apply atI_nat
  rw [rowS_list, List.getElem?_map]
  simp [h]
theorem ones_sum (bs : List Bool) : (((bs.map oneS).map (·.length)).sum) = bs.length := by
  induction bs with
  | nil => rfl
  | cons b bs ih =>
    rw [List.map_cons, List.map_cons, List.sum_cons, ih, List.length_cons]
    show 1 + _ = _
    omega
theorem join_ones (bs : List Bool) : Txt.join (Str.ofString "") (bs.map oneS) = rowS bs := by
  rw [e_is]
  exact glued_ones bs
theorem four_le : 4 ≤ sizeLine := by decide
theorem three_le : 3 ≤ sizeLine := by decide
theorem widT_le {K : PySem.W.Frag} {H : Hp} {a : Addr} {t : Tab} {n : Nat} (tb : Tb K H a t n) : widT t ≤ n := by
  cases t with
  | nil => exact Nat.zero_le _
  | cons r t => rw [widT_cons, tb.wid r List.mem_cons_self]; exact Nat.le_refl _
/-- a table turned is one too -/
theorem Tb.turn {K : PySem.W.Frag} {H H' : Hp} {a D : Addr} {t : Tab} {n : Nat} (tb : Tb K H a t n) (e : H' D = some (.lst (tabV (turnT t (widT t))))) : Tb K H' D (turnT t (widT t)) t.length :=
  ⟨.of e, turnT_wid _ _, by rw [turnT_len]; exact Nat.le_trans (widT_le tb) tb.wl, tb.len⟩
theorem one_le : 1 ≤ sizeLine := by decide
end Wa
namespace Wa
open PySem PySem.Spec PyProof.Rows L2
section
variable {P : Program} {w : World} {K : PySem.W.Frag} {mg : Str → Option Value} {base : Heap}
theorem S_is_row : FnScope ["row"] ["row"] (defScope (top 7)) := ⟨rfl, rfl, rfl, by decide +kernel, rfl, by decide +kernel, by decide +kernel⟩
theorem S_is_table : FnScope ["table"] ["table"] (defScope (top 8)) := ⟨rfl, rfl, rfl, by decide +kernel, rfl, by decide +kernel, by decide +kernel⟩
theorem S_width : FnScope ["table"] ["table"] (defScope (top 9)) := ⟨rfl, rfl, rfl, by decide +kernel, rfl, by decide +kernel, by decide +kernel⟩
theorem ok_width {f : Addr} {fd : FuncData} (F : Fun K "width" "width" (top 9) f fd) (T : Nm mg) : FnOk P w K mg base CX0 1 f fd ["table"] (spWidth K) := by
  have S := S_width
  refine F.ok S (fun vs H Q E h => ?_) (fun cdv A outer s H vs Q E hr h => ?_)
  · obtain ⟨a, t, w, rfl, _⟩ := h
    rfl
  · obtain ⟨a, t, n, rfl, tb, q⟩ := h
    refine ⟨_, (pss_one (ps_ret (pe_ifExp (pt_cmpR op_gt (pe_callB call_len_seq (by rfl) T.n_len bt_len (pa_cons (pv 0) pa_nil)) pe_int (nomark _)) (pe_callB call_len_str (by rfl) T.n_len bt_len (pa_cons (pe_ix ix_list (pv 0) pe_int (fun _ _ => rfl)) pa_nil)) pe_int))), ?_⟩
    dsimp only [cxComp, cxOf, Cx.wish, tRet, tRetN, tSeq, tNext, tIfS, tDrop, tNot, tB, tTest, tAnd, tOr, tAndV, tOrV, tNotV, tIf, tCB, tCons, tNil, tVar, tC, tOp, tUn, tBM, tBM0, tCall, tLst, tTup, tAsg, tPar, tSl, tSl3, tNoPart, tPart, tChain, tComp, tCompS, iList, iRng1, iRng2, iEnum, iZip, rI, rI0, rU, rEq, rNe, rIxL, rIxT, rIxS, rIx, rSlL, rSlS, rCat, rEqL, rIsi, rAppend, rPop, rSetL, gSub, tDGet, tDIn, sDPut, tDisp, tPairs, iZipX, rIsiO, tFld, tMeth, tMake, sFld, tOrO, iEnumT, tDNewK, Cx.may, tRaise, tCallV, tTry, rRepT, rRep]
    refine ⟨_, rfl, a, _, rfl, .inl tb.at', _, _, rfl, rfl, _, rfl, ?_⟩
    cases t with
    | nil => exact iteFb (by rw [tabV_len]; rfl) q
    | cons r t =>
      refine iteTb (by rw [tabV_len]; simp) ?_
      have hw := tb.wid r List.mem_cons_self
      refine ⟨_, rfl, a, _, _, _, rfl, rfl, tb.at', atI_nat (j := 0) (tabV_get (i := 0) rfl), _, rfl, row_size (by rw [hw]; exact tb.wl), ?_⟩
      rw [rowS_len]
      exact q
theorem S_is_number : FnScope ["value"] ["value"] (defScope (top 10)) := ⟨rfl, rfl, rfl, by decide +kernel, rfl, by decide +kernel, by decide +kernel⟩
theorem S_is_row_count : FnScope ["table", "value"] ["table", "value"] (defScope (top 11)) := ⟨rfl, rfl, rfl, by decide +kernel, rfl, by decide +kernel, by decide +kernel⟩
theorem S_check_table : FnScope ["table"] ["table"] (defScope (top 13)) := ⟨rfl, rfl, rfl, by decide +kernel, rfl, by decide +kernel, by decide +kernel⟩
theorem S_column_signs : FnScope ["table", "column"] ["table", "column"] (defScope (top 16)) := ⟨rfl, rfl, rfl, by decide +kernel, rfl, by decide +kernel, by decide +kernel⟩
theorem ok_column_signs {f : Addr} {fd : FuncData} (F : Fun K "column_signs" "column_signs" (top 16) f fd) (T : Nm mg) : FnOk P w K mg base CX0 1 f fd ["table", "column"] (spColumn K) := by
  have S := S_column_signs
  refine F.ok S (fun vs H Q E h => ?_) (fun cdv A outer s H vs Q E hr h => ?_)
  · obtain ⟨a, t, w, j, rfl, _⟩ := h
    rfl
  · obtain ⟨a, t, n, j, rfl, tb, hj, q⟩ := h
    refine ⟨_, (pss_one (ps_ret (pe_bm PySem.F.plainAttrs_str PySem.F.slot_str_join PySem.F.type_str_join mt_join pe_str (pa_cons (pe_comp (N := ["row", "column"]) (lift := [none, some 1]) (.of (by kernel_rfl)) (pi_list (pv 0)) (fun b => (pg_name (i := 0) (show (["row", "column"] : List Str).Nodup from by decide +kernel) rfl (by first | exact Or.inl rfl | exact Or.inr rfl))) (fun b => pifs_nil) (fun b => (pe_ix ix_str (pv 0) (pv 1) (fun _ _ => rfl)))) pa_nil)))), ?_⟩
    dsimp only [cxComp, cxOf, Cx.wish, tRet, tRetN, tSeq, tNext, tIfS, tDrop, tNot, tB, tTest, tAnd, tOr, tAndV, tOrV, tNotV, tIf, tCB, tCons, tNil, tVar, tC, tOp, tUn, tBM, tBM0, tCall, tLst, tTup, tAsg, tPar, tSl, tSl3, tNoPart, tPart, tChain, tComp, tCompS, iList, iRng1, iRng2, iEnum, iZip, rI, rI0, rU, rEq, rNe, rIxL, rIxT, rIxS, rIx, rSlL, rSlS, rCat, rEqL, rIsi, rAppend, rPop, rSetL, gSub, tDGet, tDIn, sDPut, tDisp, tPairs, iZipX, rIsiO, tFld, tMeth, tMake, sFld, tOrO, iEnumT, tDNewK, Cx.may, tRaise, tCallV, tTry, rRepT, rRep]
    refine ⟨rfl, _, rfl, a, rfl, ⟨_, tb.at'⟩, comp_list (fun x => match x with | .str z => some (.str ⟨#[(z.cps.toList[j]?).getD 0]⟩) | _ => none) tb.at' tb.size (fun x hx => ?_) fun D H1 s1 n1 e1 => ?_⟩
    · obtain ⟨r, hr', rfl⟩ := List.mem_map.mp hx
      have hw := tb.wid r hr'
      refine .map fun H1 k s1 hk => ?_
      refine ⟨_, rfl, _, rfl, _, _, _, rfl, rfl, row_size (by rw [hw]; exact tb.wl), row_at (by rw [hw]; exact hj), ?_⟩
      have e : ((rowS r).cps.toList[j]?).getD 0 = sgn (r.getD j false) := by
        rw [rowS_list, List.getElem?_map]
        have : j < r.length := by rw [hw]; exact hj
        simp [this]
      have h2 := hk _ (Same.refl _)
      rw [e] at h2
      exact h2
    have e2 : (tabV t).filterMap (fun x => match x with | .str z => some (.str ⟨#[(z.cps.toList[j]?).getD 0]⟩) | _ => none) = ((colT t j).map oneS).map V.str := by
      unfold tabV colT
      rw [List.filterMap_map, List.map_map, List.map_map]
      rw [← fm_some]
      apply fm_congr
      intro r hr'
      have hw := tb.wid r hr'
      have : j < r.length := by rw [hw]; exact hj
      have e : ((rowS r).cps.toList[j]?).getD 0 = sgn (r.getD j false) := by
        rw [rowS_list, List.getElem?_map]
        simp [this]
      show some (V.str ⟨#[((rowS r).cps.toList[j]?).getD 0]⟩) = some (V.str (oneS (r.getD j false)))
      rw [e]
      rfl
    rw [e2] at e1
    refine ⟨_, D, _, rfl, rfl, .of e1, ?_, ?_⟩
    · rw [ones_sum, List.length_map]
      have : (colT t j).length = t.length := by unfold colT; rw [List.length_map]
      have h3 := tb.len
      rw [e_is]
      show _ + _ * 0 ≤ _
      omega
    · rw [join_ones]
      exact q H1 s1
theorem S_turned : FnScope ["table"] ["table"] (defScope (top 17)) := ⟨rfl, rfl, rfl, by decide +kernel, rfl, by decide +kernel, by decide +kernel⟩
end
end Wa
namespace Wa
open PySem PySem.Spec PyProof.Rows L2
def rowG (z : Str) : Bool := decide (V.int (((Builtin.Str.occurrences z (Str.ofString "x") 0 z.length (z.length + 1)).length : Int) + ((Builtin.Str.occurrences z (Str.ofString "-") 0 z.length (z.length + 1)).length : Int)) = V.int (z.length : Int))
def rowV : V → Bool
  | .str z => rowG z
  | _ => false
def lenS : V → Int
  | .str z => z.length
  | _ => 0
def tabG (xs : List V) : Bool := xs.all rowV && xs.all fun x => decide (V.int (lenS x) = V.int (lenS (xs.getD 0 .non)))
theorem kind_same {K : PySem.W.Frag} {x : V} {H H' : Hp} {T : String} (h : KindV K x H T) (s : Same H H') : KindV K x H' T := by
  cases x with
  | ref a =>
    rcases h with ⟨e, xs, h⟩ | ⟨e, xs, h⟩ | ⟨e, kvs, h⟩
    · exact .inl ⟨e, xs, s.seq h⟩
    · exact .inr (.inl ⟨e, xs, s.tup h⟩)
    · exact .inr (.inr ⟨e, kvs, s _ _ h⟩)
  | _ => exact h
/-- an item of a list that may be a table -/
def CellIn (K : PySem.W.Frag) (H : Hp) (x : V) : Prop := (∃ T, KindV K x H T) ∧ ∀ z, x = .str z → z.length ≤ 1000
theorem CellIn.same {K : PySem.W.Frag} {x : V} {H H' : Hp} (h : CellIn K H x) (s : Same H H') : CellIn K H' x := ⟨let ⟨T, k⟩ := h.1; ⟨T, kind_same k s⟩, h.2⟩
/-- is_table(v) is b -/
def TabIn (K : PySem.W.Frag) (H : Hp) (v : V) (b : Bool) : Prop :=
  (∃ T, KindV K v H T ∧ subT T "list" = false ∧ b = false) ∨ ∃ a xs, v = .ref a ∧ SqL K H a xs ∧ xs.length ≤ 100 ∧ (∀ x ∈ xs, CellIn K H x) ∧ b = tabG xs
theorem TabIn.same {K : PySem.W.Frag} {v : V} {b : Bool} {H H' : Hp} (h : TabIn K H v b) (s : Same H H') : TabIn K H' v b := by
  rcases h with ⟨T, k, e⟩ | ⟨a, xs, e, hq, hl, c, r⟩
  · exact .inl ⟨T, kind_same k s, e⟩
  · exact .inr ⟨a, xs, e, s.seq hq, hl, fun x hx => (c x hx).same s, r⟩
theorem rowG_rowS (r : List Bool) : rowG (rowS r) = true := by
  unfold rowG
  have e1 : (Builtin.Str.occurrences (rowS r) (Str.ofString "x") 0 (rowS r).length ((rowS r).length + 1)).length = (r.map sgn).count 120 := by
    rw [x_is, occ_one, rowS_list]
  have e2 : (Builtin.Str.occurrences (rowS r) (Str.ofString "-") 0 (rowS r).length ((rowS r).length + 1)).length = (r.map sgn).count 45 := by
    rw [m_is, occ_one, rowS_list]
  have e3 := rowS_count r
  rw [e1, e2, rowS_len, decide_eq_true_eq]
  congr 1
  omega
theorem tabG_tab {t : Tab} {n : Nat} (h : Wid t n) : tabG (tabV t) = true := by
  unfold tabG
  rw [Bool.and_eq_true, List.all_eq_true, List.all_eq_true]
  refine ⟨fun x hx => ?_, fun x hx => ?_⟩
  · obtain ⟨r, _, rfl⟩ := List.mem_map.mp hx
    exact rowG_rowS r
  · obtain ⟨r, hr, rfl⟩ := List.mem_map.mp hx
    cases t with
    | nil => cases hr
    | cons r0 t0 =>
      show decide (V.int ((rowS r).length : Int) = V.int ((rowS r0).length : Int)) = true
      rw [rowS_len, rowS_len, h r hr, h r0 List.mem_cons_self, decide_eq_true_eq]
theorem Tb.in {K : PySem.W.Frag} {H : Hp} {a : Addr} {t : Tab} {n : Nat} (h : Tb K H a t n) : TabIn K H (.ref a) true := by
  refine .inr ⟨a, tabV t, rfl, h.at', by rw [tabV_len]; exact h.len, fun x hx => ?_, (tabG_tab h.wid).symm⟩
  obtain ⟨r, hr, rfl⟩ := List.mem_map.mp hx
  refine ⟨⟨"str", rfl⟩, fun z e => ?_⟩
  cases e
  rw [rowS_len, h.wid r hr]
  exact Nat.le_trans h.wl (by decide)
def spIsRowG (K : PySem.W.Frag) : Sp := fun vs H Q _ => ∃ x, vs = [x] ∧ CellIn K H x ∧ Q (.bl (rowV x)) H
def spIsTableG (K : PySem.W.Frag) : Sp := fun vs H Q _ => ∃ v b, vs = [v] ∧ TabIn K H v b ∧ ∀ H', Same H H' → Q (.bl b) H'
def spIsNumG (K : PySem.W.Frag) : Sp := fun vs H Q _ => ∃ x T, vs = [x] ∧ KindV K x H T ∧ Q (.bl (T == "int")) H
/-- is_row_count(.., x) is b, n rows -/
def ThIn (K : PySem.W.Frag) (H : Hp) (n : Nat) (x : V) (b : Bool) : Prop := ∃ T, KindV K x H T ∧ ((T ≠ "int" ∧ b = false) ∨ ∃ i, x = .int i ∧ b = isT n i)
def spIsRowCG (K : PySem.W.Frag) : Sp := fun vs H Q _ => ∃ a t w x b, vs = [.ref a, x] ∧ Tb K H a t w ∧ ThIn K H t.length x b ∧ Q (.bl b) H
def spCheckX (K : PySem.W.Frag) (cT : Addr) : Sp := fun vs H Q E => ∃ v b, vs = [v] ∧ TabIn K H v b ∧ ∀ H', Same H H' → if b = true then Q .non H' else E (.ref cT) none H'
def spSquareX (K : PySem.W.Frag) (cT cS : Addr) : Sp := fun vs H Q E => ∃ v, vs = [v] ∧ ((TabIn K H v false ∧ ∀ H', Same H H' → E (.ref cT) none H') ∨ ∃ a t w, v = .ref a ∧ Tb K H a t w ∧ ∀ H', Same H H' → if t.length = widT t then Q .non H' else E (.ref cS) none H')
def spThingX (K : PySem.W.Frag) (cG : Addr) : Sp := fun vs H Q E => ∃ a t w x b, vs = [.ref a, x] ∧ Tb K H a t w ∧ ThIn K H t.length x b ∧ if b = true then Q .non H else E (.ref cG) none H
def spTurnedX (K : PySem.W.Frag) (cT : Addr) : Sp := fun vs H Q E => ∃ v, vs = [v] ∧ ((TabIn K H v false ∧ ∀ H', Same H H' → E (.ref cT) none H') ∨ ∃ a t w, v = .ref a ∧ Tb K H a t w ∧ ∀ D H', Same H H' → H D = none → H' D = some (.lst (tabV (turnT t (widT t)))) → Q (.ref D) H')
/-- a door that refuses what is no table -/
def spDoor1 (K : PySem.W.Frag) (cT : Addr) : Sp := fun vs H _ E => ∃ v, vs = [v] ∧ TabIn K H v false ∧ ∀ H', Same H H' → E (.ref cT) none H'
/-- .. and what is not square -/
def spDoor2 (K : PySem.W.Frag) (cT cS : Addr) : Sp := fun vs H _ E => ∃ v, vs = [v] ∧ ((TabIn K H v false ∧ ∀ H', Same H H' → E (.ref cT) none H') ∨ ∃ a t w, v = .ref a ∧ Tb K H a t w ∧ t.length ≠ widT t ∧ ∀ H', Same H H' → E (.ref cS) none H')
def spAheadX (K : PySem.W.Frag) (cT cS cG : Addr) : Sp := fun vs H Q E => ∃ v x, vs = [v, x] ∧ ((TabIn K H v false ∧ ∀ H', Same H H' → E (.ref cT) none H') ∨ (∃ a t w, v = .ref a ∧ Tb K H a t w ∧ t.length ≠ widT t ∧ ∀ H', Same H H' → E (.ref cS) none H') ∨
  ∃ a t, v = .ref a ∧ Tb K H a t t.length ∧ ((ThIn K H t.length x false ∧ ∀ H', Same H H' → E (.ref cG) none H') ∨ ∃ j : Nat, x = .int j ∧ j < t.length ∧ ∀ D H', Same H H' → H D = none → H' D = some (.lst ((aheadL t j).map V.int)) → Q (.ref D) H'))
theorem subT_str {x : V} {K : PySem.W.Frag} {H : Hp} {T : String} (k : KindV K x H T) (n : ∀ z, x ≠ .str z) : subT T "str" = false := by
  cases x with
  | str z => exact absurd rfl (n z)
  | non => rw [show T = "NoneType" from k]; decide
  | bl b => rw [show T = "bool" from k]; decide
  | int i => rw [show T = "int" from k]; decide
  | ref a =>
    rcases k with ⟨e, _⟩ | ⟨e, _⟩ | ⟨e, _⟩
    · rw [e]; decide
    · rw [e]; decide
    · rw [e]; decide
  | byt b => exact absurd k id
  | flt b => exact absurd k id
  | ty n => exact absurd k id
theorem kind_list {K : PySem.W.Frag} {H : Hp} {a : Addr} {xs : List V} (h : SqL K H a xs) : KindV K (.ref a) H "list" := .inl ⟨rfl, xs, h⟩
section
variable {P : Program} {w : World} {K : PySem.W.Frag} {mg : Str → Option Value} {base : Heap}
theorem ok_is_row_g {f : Addr} {fd : FuncData} (F : Fun K "is_row" "is_row" (top 7) f fd) (T : Nm mg) : FnOk P w K mg base CX0 1 f fd ["row"] (spIsRowG K) := by
  have S := S_is_row
  refine F.ok S (fun vs H Q E h => ?_) (fun cdv A outer s H vs Q E hr h => ?_)
  · obtain ⟨x, rfl, _⟩ := h
    rfl
  · obtain ⟨x, rfl, ⟨⟨U, k⟩, hz⟩, q⟩ := h
    refine ⟨_, (pss_one (ps_ret (pe_and (pe_callB call_isi (by rfl) T.n_isinstance bt_isinstance (pa_cons (pv 0) (pa_cons (pe_bltn (v := .ty "str") (by rfl) T.n_str bt_str rfl) pa_nil))) (pe_one (pe_cmpR op_eq (pe_op op_add (pe_bm PySem.F.plainAttrs_str PySem.F.slot_str_count PySem.F.type_str_count mt_count (pv 0) (pa_cons pe_str pa_nil)) (pe_bm PySem.F.plainAttrs_str PySem.F.slot_str_count PySem.F.type_str_count mt_count (pv 0) (pa_cons pe_str pa_nil))) (pe_callB call_len_str (by rfl) T.n_len bt_len (pa_cons (pv 0) pa_nil)) (nomark _)))))), ?_⟩
    dsimp only [cxComp, cxOf, Cx.wish, tRet, tRetN, tSeq, tNext, tIfS, tDrop, tNot, tB, tTest, tAnd, tOr, tAndV, tOrV, tNotV, tIf, tCB, tCons, tNil, tVar, tC, tOp, tUn, tBM, tBM0, tCall, tLst, tTup, tAsg, tPar, tSl, tSl3, tNoPart, tPart, tChain, tComp, tCompS, iList, iRng1, iRng2, iEnum, iZip, rI, rI0, rU, rEq, rNe, rIxL, rIxT, rIxS, rIx, rSlL, rSlS, rCat, rEqL, rIsi, rAppend, rPop, rSetL, gSub, tDGet, tDIn, sDPut, tDisp, tPairs, iZipX, rIsiO, tFld, tMeth, tMake, sFld, tOrO, iEnumT, tDNewK, Cx.may, tRaise, tCallV, tTry, rRepT, rRep]
    refine ⟨_, rfl, _, _, _, rfl, k, .inr (.inl rfl), _, rfl, ?_⟩
    by_cases hs : ∃ z, x = .str z
    · obtain ⟨z, rfl⟩ := hs
      obtain rfl : U = "str" := k
      exact iteTb rfl ⟨_, rfl, rfl, _, _, rfl, rfl, _, rfl, rfl, _, _, rfl, rfl, _, _, rfl, rfl, _, rfl, _, rfl, Nat.le_trans (hz z rfl) (by decide), rfl, q⟩
    · have n : ∀ z, x ≠ .str z := fun z e => hs ⟨z, e⟩
      have e : rowV x = false := by
        cases x with
        | str z => exact absurd rfl (n z)
        | _ => rfl
      rw [e] at q
      exact iteFb (subT_str k n) q
theorem ok_is_table_g {f : Addr} {fd : FuncData} (F : Fun K "is_table" "is_table" (top 8) f fd) (T : Nm mg) (c_is_row : DefC P w K mg base 1 "is_row" ["row"] (spIsRowG K)) : FnOk P w K mg base CX0 2 f fd ["table"] (spIsTableG K) := by
  have S := S_is_table
  refine F.ok S (fun vs H Q E h => ?_) (fun cdv A outer s H vs Q E hr h => ?_)
  · obtain ⟨v, b, rfl, _⟩ := h
    rfl
  · obtain ⟨v, b, rfl, ti, q⟩ := h
    refine ⟨_, (pss_cons (ps_if (pt_not (pt_val (pe_callB call_isi (by rfl) T.n_isinstance bt_isinstance (pa_cons (pv 0) (pa_cons (pe_bltn (v := .ty "list") (by rfl) T.n_list bt_list rfl) pa_nil))))) (pss_one (ps_ret pe_bl)) pss_nil)
      (pss_cons (ps_if (pt_not (pt_val (pe_callB (call_all rfl) (by rfl) T.n_all bt_all (pa_cons (pe_comp (N := ["row"]) (lift := [none]) (.of (by kernel_rfl)) (pi_list (pv 0)) (fun b => (pg_name (i := 0) (show (["row"] : List Str).Nodup from by decide +kernel) rfl (by first | exact Or.inl rfl | exact Or.inr rfl))) (fun b => pifs_nil) (fun b => (pe_callC c_is_row hr (by rfl) (pa_cons (pv 0) pa_nil)))) pa_nil)))) (pss_one (ps_ret pe_bl)) pss_nil)
      (pss_one (ps_ret (pe_callB (call_all rfl) (by rfl) T.n_all bt_all (pa_cons (pe_comp (N := ["row", "table"]) (lift := [none, some 0]) (.of (by kernel_rfl)) (pi_list (pv 0)) (fun b => (pg_name (i := 0) (show (["row", "table"] : List Str).Nodup from by decide +kernel) rfl (by first | exact Or.inl rfl | exact Or.inr rfl))) (fun b => pifs_nil) (fun b => (pe_cmpR op_eq (pe_callB call_len_str (by rfl) T.n_len bt_len (pa_cons (pv 0) pa_nil)) (pe_callB call_len_str (by rfl) T.n_len bt_len (pa_cons (pe_ix ix_list (pv 1) pe_int (fun _ _ => rfl)) pa_nil)) (nomark _)))) pa_nil)))))), ?_⟩
    dsimp only [cxComp, cxOf, Cx.wish, tRet, tRetN, tSeq, tNext, tIfS, tDrop, tNot, tB, tTest, tAnd, tOr, tAndV, tOrV, tNotV, tIf, tCB, tCons, tNil, tVar, tC, tOp, tUn, tBM, tBM0, tCall, tLst, tTup, tAsg, tPar, tSl, tSl3, tNoPart, tPart, tChain, tComp, tCompS, iList, iRng1, iRng2, iEnum, iZip, rI, rI0, rU, rEq, rNe, rIxL, rIxT, rIxS, rIx, rSlL, rSlS, rCat, rEqL, rIsi, rAppend, rPop, rSetL, gSub, tDGet, tDIn, sDPut, tDisp, tPairs, iZipX, rIsiO, tFld, tMeth, tMake, sFld, tOrO, iEnumT, tDNewK, Cx.may, tRaise, tCallV, tTry, rRepT, rRep]
    rcases ti with ⟨U, k, e, rfl⟩ | ⟨a, xs, rfl, hq, hl, c, rfl⟩
    · exact ⟨_, rfl, _, _, _, rfl, k, .inl rfl, _, rfl, iteTb (by rw [e]; rfl) (q H (Same.refl H))⟩
    refine ⟨_, rfl, _, _, _, rfl, kind_list hq, .inl rfl, _, rfl, iteFb rfl ?_⟩
    have size : xs.length ≤ sizeLine := Nat.le_trans hl (by decide)
    refine ⟨_, rfl, a, rfl, ⟨_, hq⟩, comp_list (fun x => some (.bl (rowV x))) hq size (fun x hx => .map fun H1 k s1 hk => ?_) fun D H1 s1 n1 e1 => ?_⟩
    · exact ⟨_, rfl, x, rfl, (c x hx).same s1, hk _ (Same.refl _)⟩
    have eb : xs.filterMap (fun x => some (V.bl (rowV x))) = (xs.map rowV).map V.bl := by
      rw [fm_some, List.map_map]
      rfl
    rw [eb] at e1
    refine ⟨D, _, rfl, .of e1, _, rfl, ?_⟩
    have q1 := q H1 s1
    unfold tabG at q q1
    have ea : (xs.map rowV).all id = xs.all rowV := by rw [List.all_map]; rfl
    rw [ea]
    cases all : xs.all rowV with
    | false =>
      rw [all, Bool.false_and] at q1
      exact iteTb rfl q1
    | true =>
      rw [all, Bool.true_and] at q
      refine iteFb rfl ?_
      have hq1 := s1.seq hq
      have txt : ∀ x ∈ xs, ∃ z, x = .str z ∧ z.length ≤ 1000 := fun x hx => by
        have := (List.all_eq_true.mp all) x hx
        cases x with
        | str z => exact ⟨z, rfl, (c _ hx).2 z rfl⟩
        | _ => cases this
      refine ⟨_, rfl, a, rfl, ⟨_, hq1⟩, comp_list (fun x => some (.bl (decide (V.int (lenS x) = V.int (lenS (xs.getD 0 .non)))))) hq1 size (fun x hx => .map fun H2 k s2 hk => ?_) fun D2 H2 s2 n2 e2 => ?_⟩
      · obtain ⟨z, rfl, hz⟩ := txt x hx
        cases xs with
        | nil => cases hx
        | cons x0 xs0 =>
          obtain ⟨z0, rfl, hz0⟩ := txt x0 List.mem_cons_self
          exact ⟨_, rfl, _, rfl, Nat.le_trans hz (by decide), _, rfl, a, _, _, _, rfl, rfl, s2.seq hq1, atI_nat (j := 0) rfl, _, rfl, Nat.le_trans hz0 (by decide), rfl, hk _ (Same.refl _)⟩
      have eb2 : xs.filterMap (fun x => some (V.bl (decide (V.int (lenS x) = V.int (lenS (xs.getD 0 .non)))))) = (xs.map fun x => decide (V.int (lenS x) = V.int (lenS (xs.getD 0 .non)))).map V.bl := by
        rw [fm_some, List.map_map]
        rfl
      rw [eb2] at e2
      refine ⟨D2, _, rfl, .of e2, ?_⟩
      rw [List.all_map]
      exact q H2 (s1.trans s2)
theorem ok_is_number_g {f : Addr} {fd : FuncData} (F : Fun K "is_number" "is_number" (top 10) f fd) (T : Nm mg) : FnOk P w K mg base CX0 1 f fd ["value"] (spIsNumG K) := by
  have S := S_is_number
  refine F.ok S (fun vs H Q E h => ?_) (fun cdv A outer s H vs Q E hr h => ?_)
  · obtain ⟨x, U, rfl, _⟩ := h
    rfl
  · obtain ⟨x, U, rfl, k, q⟩ := h
    refine ⟨_, (pss_one (ps_ret (pe_and (pe_callB call_isi (by rfl) T.n_isinstance bt_isinstance (pa_cons (pv 0) (pa_cons (pe_bltn (v := .ty "int") (by rfl) T.n_int bt_int rfl) pa_nil))) (pe_one (pe_not (pe_callB call_isi (by rfl) T.n_isinstance bt_isinstance (pa_cons (pv 0) (pa_cons (pe_bltn (v := .ty "bool") (by rfl) T.n_bool bt_bool rfl) pa_nil)))))))), ?_⟩
    dsimp only [cxComp, cxOf, Cx.wish, tRet, tRetN, tSeq, tNext, tIfS, tDrop, tNot, tB, tTest, tAnd, tOr, tAndV, tOrV, tNotV, tIf, tCB, tCons, tNil, tVar, tC, tOp, tUn, tBM, tBM0, tCall, tLst, tTup, tAsg, tPar, tSl, tSl3, tNoPart, tPart, tChain, tComp, tCompS, iList, iRng1, iRng2, iEnum, iZip, rI, rI0, rU, rEq, rNe, rIxL, rIxT, rIxS, rIx, rSlL, rSlS, rCat, rEqL, rIsi, rAppend, rPop, rSetL, gSub, tDGet, tDIn, sDPut, tDisp, tPairs, iZipX, rIsiO, tFld, tMeth, tMake, sFld, tOrO, iEnumT, tDNewK, Cx.may, tRaise, tCallV, tTry, rRepT, rRep]
    have two : (U = "int" ∨ U = "bool") ∨ (subT U "int" = false ∧ (U == "int") = false) := by
      cases x with
      | non => exact .inr (by rw [show U = "NoneType" from k]; decide)
      | bl b => exact .inl (.inr k)
      | int i => exact .inl (.inl k)
      | str z => exact .inr (by rw [show U = "str" from k]; decide)
      | ref a =>
        rcases k with ⟨e, _⟩ | ⟨e, _⟩ | ⟨e, _⟩ <;> exact .inr (by rw [e]; decide)
      | byt b => exact absurd k id
      | flt b => exact absurd k id
      | ty n => exact absurd k id
    refine ⟨_, rfl, _, _, _, rfl, k, .inr (.inr (.inl rfl)), _, rfl, ?_⟩
    rcases two with (rfl | rfl) | ⟨e1, e2⟩
    · exact iteTb rfl ⟨_, rfl, _, _, _, rfl, k, .inr (.inr (.inr rfl)), _, rfl, q⟩
    · exact iteTb rfl ⟨_, rfl, _, _, _, rfl, k, .inr (.inr (.inr rfl)), _, rfl, q⟩
    · rw [e2] at q
      exact iteFb e1 q
theorem ok_is_row_count_g {f : Addr} {fd : FuncData} (F : Fun K "is_row_count" "is_row_count" (top 11) f fd) (T : Nm mg) (c_is_number : DefC P w K mg base 1 "is_number" ["value"] (spIsNumG K)) : FnOk P w K mg base CX0 2 f fd ["table", "value"] (spIsRowCG K) := by
  have S := S_is_row_count
  refine F.ok S (fun vs H Q E h => ?_) (fun cdv A outer s H vs Q E hr h => ?_)
  · obtain ⟨a, t, n, x, b, rfl, _⟩ := h
    rfl
  · obtain ⟨a, t, n, x, b, rfl, tb, ⟨U, k, ti⟩, q⟩ := h
    refine ⟨_, (pss_one (ps_ret (pe_and (pe_callC c_is_number hr (by rfl) (pa_cons (pv 1) pa_nil)) (pe_one (pe_chain op_le op_lt pe_int (pv 1) (pe_callB call_len_seq (by rfl) T.n_len bt_len (pa_cons (pv 0) pa_nil))))))), ?_⟩
    dsimp only [cxComp, cxOf, Cx.wish, tRet, tRetN, tSeq, tNext, tIfS, tDrop, tNot, tB, tTest, tAnd, tOr, tAndV, tOrV, tNotV, tIf, tCB, tCons, tNil, tVar, tC, tOp, tUn, tBM, tBM0, tCall, tLst, tTup, tAsg, tPar, tSl, tSl3, tNoPart, tPart, tChain, tComp, tCompS, iList, iRng1, iRng2, iEnum, iZip, rI, rI0, rU, rEq, rNe, rIxL, rIxT, rIxS, rIx, rSlL, rSlS, rCat, rEqL, rIsi, rAppend, rPop, rSetL, gSub, tDGet, tDIn, sDPut, tDisp, tPairs, iZipX, rIsiO, tFld, tMeth, tMake, sFld, tOrO, iEnumT, tDNewK, Cx.may, tRaise, tCallV, tTry, rRepT, rRep]
    refine ⟨_, rfl, x, U, rfl, k, _, rfl, ?_⟩
    rcases ti with ⟨ne, rfl⟩ | ⟨i, rfl, rfl⟩
    · exact iteFb (by simpa using ne) q
    obtain rfl : U = "int" := k
    unfold isT at q
    refine iteTb rfl ⟨_, rfl, _, _, rfl, rfl, _, rfl, ite_cases (fun h0 => ?_) fun h0 => ?_⟩
    · refine ⟨_, rfl, a, _, rfl, .inl tb.at', _, _, rfl, rfl, ?_⟩
      rw [h0] at q
      rw [tabV_len]
      exact q
    · rw [h0] at q
      exact q
end
end Wa
namespace Wa
open PySem PySem.Spec PyProof.Rows L2
abbrev exM : List Value := [.type "ValueError", .type "Exception", .type "BaseException", .type "object"]
abbrev exN : String := "ValueError.__new__"
abbrev OwnX (x : Str) (C : Addr) (mg : Str → Option Value) (base : Heap) : Prop := OwnCls x C exM exN mg base
theorem xFn : ExcBaseFacts "ValueError" exN "ValueError.__init__" exM := PySem.F.excBase_ValueError
theorem xFB : ExcBaseFacts "ValueError" "ValueError.__new__" "ValueError.__init__" exM := PySem.F.excBase_ValueError
theorem one_text {x : Str} : ([V.str x].length : Nat) ≤ sizeLine := by show 1 ≤ sizeLine; decide
section
variable {P : Program} {w : World} {K : PySem.W.Frag} {mg : Str → Option Value} {base : Heap} {cT cS cG : Addr}
theorem ok_check_table_x {f : Addr} {fd : FuncData} (F : Fun K "check_table" "check_table" (top 13) f fd) (T : Nm mg) (o_BadTable : OwnX "BadTable" cT mg base) (c_is_table : DefC P w K mg base 2 "is_table" ["table"] (spIsTableG K)) :
    FnOk P w K mg base (CX1 P w) 3 f fd ["table"] (spCheckX K cT) := by
  have S := S_check_table
  refine F.okx S (fun vs H Q E h => ?_) (fun cdv A outer s H vs Q E hr h => ?_)
  · obtain ⟨v, b, rfl, _⟩ := h
    rfl
  · obtain ⟨v, b, rfl, ti, q⟩ := h
    refine ⟨_, (pss_one (ps_if (pt_not (pt_val (pe_callC c_is_table hr (by rfl) (pa_cons (pv 0) pa_nil)))) (pss_one (ps_raise o_BadTable xFn rfl xFB rfl (by rfl) (pa_cons pe_str pa_nil))) pss_nil)), ?_⟩
    dsimp only [cxComp, cxOf, Cx.wish, tRet, tRetN, tSeq, tNext, tIfS, tDrop, tNot, tB, tTest, tAnd, tOr, tAndV, tOrV, tNotV, tIf, tCB, tCons, tNil, tVar, tC, tOp, tUn, tBM, tBM0, tCall, tLst, tTup, tAsg, tPar, tSl, tSl3, tNoPart, tPart, tChain, tComp, tCompS, iList, iRng1, iRng2, iEnum, iZip, rI, rI0, rU, rEq, rNe, rIxL, rIxT, rIxS, rIx, rSlL, rSlS, rCat, rEqL, rIsi, rAppend, rPop, rSetL, gSub, tDGet, tDIn, sDPut, tDisp, tPairs, iZipX, rIsiO, tFld, tMeth, tMake, sFld, tOrO, iEnumT, tDNewK, Cx.may, tRaise, tCallV, tTry, rRepT, rRep]
    refine ⟨_, rfl, v, b, rfl, ti, fun H1 s1 => ⟨_, rfl, ?_⟩⟩
    have q1 := q H1 s1
    cases b with
    | true => exact iteFb rfl q1
    | false => exact iteTb rfl ⟨one_text, q1⟩
theorem S_check_square_x : FnScope ["table"] ["table"] (defScope (top 14)) := ⟨rfl, rfl, rfl, by decide +kernel, rfl, by decide +kernel, by decide +kernel⟩
theorem ok_check_square_x {f : Addr} {fd : FuncData} (F : Fun K "check_square" "check_square" (top 14) f fd) (T : Nm mg) (o_BadSquare : OwnX "BadSquare" cS mg base) (c_check_table : DefX P w K mg base 3 "check_table" ["table"] (spCheckX K cT))
    (c_width : DefC P w K mg base 1 "width" ["table"] (spWidth K)) : FnOk P w K mg base (CX1 P w) 4 f fd ["table"] (spSquareX K cT cS) := by
  have S := S_check_square_x
  refine F.okx S (fun vs H Q E h => ?_) (fun cdv A outer s H vs Q E hr h => ?_)
  · obtain ⟨v, rfl, _⟩ := h
    rfl
  · obtain ⟨v, rfl, h⟩ := h
    refine ⟨_, (pss_cons (ps_expr (pe_callX c_check_table hr (by rfl) (pa_cons (pv 0) pa_nil)))
      (pss_one (ps_if (pt_cmpR op_ne (pe_callB call_len_seq (by rfl) T.n_len bt_len (pa_cons (pv 0) pa_nil)) (pe_callC c_width hr (by rfl) (pa_cons (pv 0) pa_nil)) (nomark _)) (pss_one (ps_raise o_BadSquare xFn rfl xFB rfl (by rfl) (pa_cons pe_str pa_nil))) pss_nil))), ?_⟩
    dsimp only [cxComp, cxOf, Cx.wish, tRet, tRetN, tSeq, tNext, tIfS, tDrop, tNot, tB, tTest, tAnd, tOr, tAndV, tOrV, tNotV, tIf, tCB, tCons, tNil, tVar, tC, tOp, tUn, tBM, tBM0, tCall, tLst, tTup, tAsg, tPar, tSl, tSl3, tNoPart, tPart, tChain, tComp, tCompS, iList, iRng1, iRng2, iEnum, iZip, rI, rI0, rU, rEq, rNe, rIxL, rIxT, rIxS, rIx, rSlL, rSlS, rCat, rEqL, rIsi, rAppend, rPop, rSetL, gSub, tDGet, tDIn, sDPut, tDisp, tPairs, iZipX, rIsiO, tFld, tMeth, tMake, sFld, tOrO, iEnumT, tDNewK, Cx.may, tRaise, tCallV, tTry, rRepT, rRep]
    rcases h with ⟨ti, q⟩ | ⟨a, t, n, rfl, tb, q⟩
    · exact ⟨_, rfl, v, false, rfl, ti, fun H1 s1 => q H1 s1⟩
    refine ⟨_, rfl, _, true, rfl, tb.in, fun H1 s1 => ?_⟩
    show if true = true then _ else _
    rw [if_pos rfl]
    have tb1 := tb.same s1
    refine ⟨_, rfl, a, _, rfl, .inl tb1.at', _, rfl, a, t, _, rfl, tb1, rfl, _, rfl, ?_⟩
    have q1 := q H1 s1
    rw [tabV_len]
    by_cases e : t.length = widT t
    · rw [if_pos e] at q1
      exact iteFb (by rw [e]; simp) q1
    · rw [if_neg e] at q1
      exact iteTb (by simp; omega) ⟨one_text, q1⟩
theorem S_check_thing_x : FnScope ["table", "thing"] ["table", "thing"] (defScope (top 15)) := ⟨rfl, rfl, rfl, by decide +kernel, rfl, by decide +kernel, by decide +kernel⟩
theorem ok_check_thing_x {f : Addr} {fd : FuncData} (F : Fun K "check_thing" "check_thing" (top 15) f fd) (T : Nm mg) (o_BadThing : OwnX "BadThing" cG mg base) (c_is_row_count : DefC P w K mg base 2 "is_row_count" ["table", "value"] (spIsRowCG K)) :
    FnOk P w K mg base (CX1 P w) 3 f fd ["table", "thing"] (spThingX K cG) := by
  have S := S_check_thing_x
  refine F.okx S (fun vs H Q E h => ?_) (fun cdv A outer s H vs Q E hr h => ?_)
  · obtain ⟨a, t, n, x, b, rfl, _⟩ := h
    rfl
  · obtain ⟨a, t, n, x, b, rfl, tb, ti, q⟩ := h
    refine ⟨_, (pss_one (ps_if (pt_not (pt_val (pe_callC c_is_row_count hr (by rfl) (pa_cons (pv 0) (pa_cons (pv 1) pa_nil))))) (pss_one (ps_raise o_BadThing xFn rfl xFB rfl (by rfl) (pa_cons pe_str pa_nil))) pss_nil)), ?_⟩
    dsimp only [cxComp, cxOf, Cx.wish, tRet, tRetN, tSeq, tNext, tIfS, tDrop, tNot, tB, tTest, tAnd, tOr, tAndV, tOrV, tNotV, tIf, tCB, tCons, tNil, tVar, tC, tOp, tUn, tBM, tBM0, tCall, tLst, tTup, tAsg, tPar, tSl, tSl3, tNoPart, tPart, tChain, tComp, tCompS, iList, iRng1, iRng2, iEnum, iZip, rI, rI0, rU, rEq, rNe, rIxL, rIxT, rIxS, rIx, rSlL, rSlS, rCat, rEqL, rIsi, rAppend, rPop, rSetL, gSub, tDGet, tDIn, sDPut, tDisp, tPairs, iZipX, rIsiO, tFld, tMeth, tMake, sFld, tOrO, iEnumT, tDNewK, Cx.may, tRaise, tCallV, tTry, rRepT, rRep]
    refine ⟨_, rfl, _, rfl, a, t, n, x, b, rfl, tb, ti, _, rfl, ?_⟩
    cases b with
    | true => exact iteFb rfl q
    | false => exact iteTb rfl ⟨one_text, q⟩
theorem ok_turned_x {f : Addr} {fd : FuncData} (F : Fun K "turned" "turned" (top 17) f fd) (T : Nm mg) (c_check_table : DefX P w K mg base 3 "check_table" ["table"] (spCheckX K cT)) (c_width : DefC P w K mg base 1 "width" ["table"] (spWidth K))
    (c_column_signs : DefC P w K mg base 1 "column_signs" ["table", "column"] (spColumn K)) : FnOk P w K mg base (CX1 P w) 4 f fd ["table"] (spTurnedX K cT) := by
  have S := S_turned
  refine F.okx S (fun vs H Q E h => ?_) (fun cdv A outer s H vs Q E hr h => ?_)
  · obtain ⟨v, rfl, _⟩ := h
    rfl
  · obtain ⟨v, rfl, h⟩ := h
    refine ⟨_, (pss_cons (ps_expr (pe_callX c_check_table hr (by rfl) (pa_cons (pv 0) pa_nil)))
      (pss_one (ps_ret (pe_comp (N := ["column", "table"]) (lift := [none, some 0]) (.of (by kernel_rfl)) (pi_range1 (by rfl) T.n_range (pa_cons (pe_callC c_width hr (by rfl) (pa_cons (pv 0) pa_nil)) pa_nil)) (fun b => (pg_name (i := 0) (show (["column", "table"] : List Str).Nodup from by decide +kernel) rfl (by first | exact Or.inl rfl | exact Or.inr rfl))) (fun b => pifs_nil) (fun b => (pe_callC c_column_signs hr (by rfl) (pa_cons (pv 1) (pa_cons (pv 0) pa_nil)))))))), ?_⟩
    dsimp only [cxComp, cxOf, Cx.wish, tRet, tRetN, tSeq, tNext, tIfS, tDrop, tNot, tB, tTest, tAnd, tOr, tAndV, tOrV, tNotV, tIf, tCB, tCons, tNil, tVar, tC, tOp, tUn, tBM, tBM0, tCall, tLst, tTup, tAsg, tPar, tSl, tSl3, tNoPart, tPart, tChain, tComp, tCompS, iList, iRng1, iRng2, iEnum, iZip, rI, rI0, rU, rEq, rNe, rIxL, rIxT, rIxS, rIx, rSlL, rSlS, rCat, rEqL, rIsi, rAppend, rPop, rSetL, gSub, tDGet, tDIn, sDPut, tDisp, tPairs, iZipX, rIsiO, tFld, tMeth, tMake, sFld, tOrO, iEnumT, tDNewK, Cx.may, tRaise, tCallV, tTry, rRepT, rRep]
    rcases h with ⟨ti, q⟩ | ⟨a, t, n, rfl, tb, q⟩
    · exact ⟨_, rfl, v, false, rfl, ti, fun H1 s1 => q H1 s1⟩
    refine ⟨_, rfl, _, true, rfl, tb.in, fun H1 s1 => ?_⟩
    show if true = true then _ else _
    rw [if_pos rfl]
    have tb1 := tb.same s1
    have hwl : widT t ≤ n := by
      cases t with
      | nil => exact Nat.zero_le _
      | cons r t => rw [widT_cons, tb.wid r List.mem_cons_self]; exact Nat.le_refl _
    have hw100 := tb.wl
    refine ⟨_, rfl, a, t, n, rfl, tb1, _, rfl, (by omega), (by omega), ?_⟩
    rw [Int.toNat_natCast]
    refine comp_range (fun i => some (.str (rowS (colT t i)))) (Nat.le_trans (Nat.le_trans hwl hw100) (by decide)) (fun i hi => .map fun H2 k s2 hk => ?_) fun D H2 s2 n2 e2 => ?_
    · refine ⟨_, rfl, _, rfl, a, t, n, i, (by simp), tb1.same s2, (by omega), fun H3 s3 => hk H3 s3⟩
    · refine q D H2 (s1.trans s2) (s1.free n2) ?_
      rw [e2, fm_some]
      unfold tabV turnT colT
      rw [List.map_map]
      rfl
theorem S_steps_x : FnScope ["table"] ["table"] (defScope (top 32)) := ⟨rfl, rfl, rfl, by decide +kernel, rfl, by decide +kernel, by decide +kernel⟩
theorem ok_steps_x {f : Addr} {fd : FuncData} (F : Fun K "steps" "steps" (top 32) f fd) (T : Nm mg) (c_check_table : DefX P w K mg base 3 "check_table" ["table"] (spCheckX K cT)) : FnOk P w K mg base (CX1 P w) 4 f fd ["table"] (spDoor1 K cT) := by
  have S := S_steps_x
  refine F.okx S (fun vs H Q E h => ?_) (fun cdv A outer s H vs Q E hr h => ?_)
  · obtain ⟨v, rfl, _⟩ := h
    rfl
  · obtain ⟨v, rfl, ti, q⟩ := h
    refine ⟨_, (pss_stop (ps_expr (pe_callX c_check_table hr (by rfl) (pa_cons (pv 0) pa_nil)))), ?_⟩
    dsimp only [cxComp, cxOf, Cx.wish, tRet, tRetN, tSeq, tNext, tIfS, tDrop, tNot, tB, tTest, tAnd, tOr, tAndV, tOrV, tNotV, tIf, tCB, tCons, tNil, tVar, tC, tOp, tUn, tBM, tBM0, tCall, tLst, tTup, tAsg, tPar, tSl, tSl3, tNoPart, tPart, tChain, tComp, tCompS, iList, iRng1, iRng2, iEnum, iZip, rI, rI0, rU, rEq, rNe, rIxL, rIxT, rIxS, rIx, rSlL, rSlS, rCat, rEqL, rIsi, rAppend, rPop, rSetL, gSub, tDGet, tDIn, sDPut, tDisp, tPairs, iZipX, rIsiO, tFld, tMeth, tMake, sFld, tOrO, iEnumT, tDNewK, Cx.may, tRaise, tCallV, tTry, rRepT, rRep]
    exact ⟨_, rfl, v, false, rfl, ti, fun H1 s1 => q H1 s1⟩
theorem S_stretches_x : FnScope ["table"] ["table"] (defScope (top 33)) := ⟨rfl, rfl, rfl, by decide +kernel, rfl, by decide +kernel, by decide +kernel⟩
theorem ok_stretches_x {f : Addr} {fd : FuncData} (F : Fun K "stretches" "stretches" (top 33) f fd) (T : Nm mg) (c_check_square : DefX P w K mg base 4 "check_square" ["table"] (spSquareX K cT cS)) : FnOk P w K mg base (CX1 P w) 5 f fd ["table"] (spDoor2 K cT cS) := by
  have S := S_stretches_x
  refine F.okx S (fun vs H Q E h => ?_) (fun cdv A outer s H vs Q E hr h => ?_)
  · obtain ⟨v, rfl, _⟩ := h
    rfl
  · obtain ⟨v, rfl, h⟩ := h
    refine ⟨_, (pss_stop (ps_expr (pe_callX c_check_square hr (by rfl) (pa_cons (pv 0) pa_nil)))), ?_⟩
    dsimp only [cxComp, cxOf, Cx.wish, tRet, tRetN, tSeq, tNext, tIfS, tDrop, tNot, tB, tTest, tAnd, tOr, tAndV, tOrV, tNotV, tIf, tCB, tCons, tNil, tVar, tC, tOp, tUn, tBM, tBM0, tCall, tLst, tTup, tAsg, tPar, tSl, tSl3, tNoPart, tPart, tChain, tComp, tCompS, iList, iRng1, iRng2, iEnum, iZip, rI, rI0, rU, rEq, rNe, rIxL, rIxT, rIxS, rIx, rSlL, rSlS, rCat, rEqL, rIsi, rAppend, rPop, rSetL, gSub, tDGet, tDIn, sDPut, tDisp, tPairs, iZipX, rIsiO, tFld, tMeth, tMake, sFld, tOrO, iEnumT, tDNewK, Cx.may, tRaise, tCallV, tTry, rRepT, rRep]
    rcases h with ⟨ti, q⟩ | ⟨a, t, n, rfl, tb, ne, q⟩
    · exact ⟨_, rfl, v, rfl, .inl ⟨ti, q⟩⟩
    · exact ⟨_, rfl, _, rfl, .inr ⟨a, t, n, rfl, tb, fun H1 s1 => by rw [if_neg ne]; exact q H1 s1⟩⟩
theorem S_ranks_x : FnScope ["table"] ["table"] (defScope (top 34)) := ⟨rfl, rfl, rfl, by decide +kernel, rfl, by decide +kernel, by decide +kernel⟩
theorem ok_ranks_x {f : Addr} {fd : FuncData} (F : Fun K "ranks" "ranks" (top 34) f fd) (T : Nm mg) (c_check_square : DefX P w K mg base 4 "check_square" ["table"] (spSquareX K cT cS)) : FnOk P w K mg base (CX1 P w) 5 f fd ["table"] (spDoor2 K cT cS) := by
  have S := S_ranks_x
  refine F.okx S (fun vs H Q E h => ?_) (fun cdv A outer s H vs Q E hr h => ?_)
  · obtain ⟨v, rfl, _⟩ := h
    rfl
  · obtain ⟨v, rfl, h⟩ := h
    refine ⟨_, (pss_stop (ps_expr (pe_callX c_check_square hr (by rfl) (pa_cons (pv 0) pa_nil)))), ?_⟩
    dsimp only [cxComp, cxOf, Cx.wish, tRet, tRetN, tSeq, tNext, tIfS, tDrop, tNot, tB, tTest, tAnd, tOr, tAndV, tOrV, tNotV, tIf, tCB, tCons, tNil, tVar, tC, tOp, tUn, tBM, tBM0, tCall, tLst, tTup, tAsg, tPar, tSl, tSl3, tNoPart, tPart, tChain, tComp, tCompS, iList, iRng1, iRng2, iEnum, iZip, rI, rI0, rU, rEq, rNe, rIxL, rIxT, rIxS, rIx, rSlL, rSlS, rCat, rEqL, rIsi, rAppend, rPop, rSetL, gSub, tDGet, tDIn, sDPut, tDisp, tPairs, iZipX, rIsiO, tFld, tMeth, tMake, sFld, tOrO, iEnumT, tDNewK, Cx.may, tRaise, tCallV, tTry, rRepT, rRep]
    rcases h with ⟨ti, q⟩ | ⟨a, t, n, rfl, tb, ne, q⟩
    · exact ⟨_, rfl, v, rfl, .inl ⟨ti, q⟩⟩
    · exact ⟨_, rfl, _, rfl, .inr ⟨a, t, n, rfl, tb, fun H1 s1 => by rw [if_neg ne]; exact q H1 s1⟩⟩
theorem S_line_x : FnScope ["table"] ["table"] (defScope (top 35)) := ⟨rfl, rfl, rfl, by decide +kernel, rfl, by decide +kernel, by decide +kernel⟩
theorem ok_line_x {f : Addr} {fd : FuncData} (F : Fun K "line" "line" (top 35) f fd) (T : Nm mg) (c_check_square : DefX P w K mg base 4 "check_square" ["table"] (spSquareX K cT cS)) : FnOk P w K mg base (CX1 P w) 5 f fd ["table"] (spDoor2 K cT cS) := by
  have S := S_line_x
  refine F.okx S (fun vs H Q E h => ?_) (fun cdv A outer s H vs Q E hr h => ?_)
  · obtain ⟨v, rfl, _⟩ := h
    rfl
  · obtain ⟨v, rfl, h⟩ := h
    refine ⟨_, (pss_stop (ps_expr (pe_callX c_check_square hr (by rfl) (pa_cons (pv 0) pa_nil)))), ?_⟩
    dsimp only [cxComp, cxOf, Cx.wish, tRet, tRetN, tSeq, tNext, tIfS, tDrop, tNot, tB, tTest, tAnd, tOr, tAndV, tOrV, tNotV, tIf, tCB, tCons, tNil, tVar, tC, tOp, tUn, tBM, tBM0, tCall, tLst, tTup, tAsg, tPar, tSl, tSl3, tNoPart, tPart, tChain, tComp, tCompS, iList, iRng1, iRng2, iEnum, iZip, rI, rI0, rU, rEq, rNe, rIxL, rIxT, rIxS, rIx, rSlL, rSlS, rCat, rEqL, rIsi, rAppend, rPop, rSetL, gSub, tDGet, tDIn, sDPut, tDisp, tPairs, iZipX, rIsiO, tFld, tMeth, tMake, sFld, tOrO, iEnumT, tDNewK, Cx.may, tRaise, tCallV, tTry, rRepT, rRep]
    rcases h with ⟨ti, q⟩ | ⟨a, t, n, rfl, tb, ne, q⟩
    · exact ⟨_, rfl, v, rfl, .inl ⟨ti, q⟩⟩
    · exact ⟨_, rfl, _, rfl, .inr ⟨a, t, n, rfl, tb, fun H1 s1 => by rw [if_neg ne]; exact q H1 s1⟩⟩
theorem S_ahead_of_x : FnScope ["table", "thing"] ["table", "thing"] (defScope (top 18)) := ⟨rfl, rfl, rfl, by decide +kernel, rfl, by decide +kernel, by decide +kernel⟩
theorem ok_ahead_of_x {f : Addr} {fd : FuncData} (F : Fun K "ahead_of" "ahead_of" (top 18) f fd) (T : Nm mg) (c_check_square : DefX P w K mg base 4 "check_square" ["table"] (spSquareX K cT cS)) (c_check_thing : DefX P w K mg base 3 "check_thing" ["table", "thing"] (spThingX K cG)) :
    FnOk P w K mg base (CX1 P w) 5 f fd ["table", "thing"] (spAheadX K cT cS cG) := by
  have S := S_ahead_of_x
  refine F.okx S (fun vs H Q E h => ?_) (fun cdv A outer s H vs Q E hr h => ?_)
  · obtain ⟨v, x, rfl, _⟩ := h
    rfl
  · obtain ⟨v, x, rfl, h⟩ := h
    refine ⟨_, (pss_cons (ps_expr (pe_callX c_check_square hr (by rfl) (pa_cons (pv 0) pa_nil)))
      (pss_cons (ps_expr (pe_callX c_check_thing hr (by rfl) (pa_cons (pv 0) (pa_cons (pv 1) pa_nil))))
      (pss_one (ps_ret (pe_comp (N := ["one", "row", "thing"]) (lift := [none, none, some 1]) (.of (by kernel_rfl)) (pi_enum (by rfl) T.n_enumerate (pa_cons (pv 0) pa_nil)) (fun b => (pg_tup (n := 2) rfl (pgs_cons (pg_name (i := 0) (show (["one", "row", "thing"] : List Str).Nodup from by decide +kernel) rfl (by first | exact Or.inl rfl | exact Or.inr rfl)) (pgs_cons (pg_name (i := 1) (show (["one", "row", "thing"] : List Str).Nodup from by decide +kernel) rfl (by first | exact Or.inl rfl | exact Or.inr rfl)) pgs_nil)))) (fun b => (pifs_one (pt_cmpR op_eq (pe_ix ix_str (pv 1) (pv 2) (fun _ _ => rfl)) pe_str (nomark _)))) (fun b => (pv 0))))))), ?_⟩
    dsimp only [cxComp, cxOf, Cx.wish, tRet, tRetN, tSeq, tNext, tIfS, tDrop, tNot, tB, tTest, tAnd, tOr, tAndV, tOrV, tNotV, tIf, tCB, tCons, tNil, tVar, tC, tOp, tUn, tBM, tBM0, tCall, tLst, tTup, tAsg, tPar, tSl, tSl3, tNoPart, tPart, tChain, tComp, tCompS, iList, iRng1, iRng2, iEnum, iZip, rI, rI0, rU, rEq, rNe, rIxL, rIxT, rIxS, rIx, rSlL, rSlS, rCat, rEqL, rIsi, rAppend, rPop, rSetL, gSub, tDGet, tDIn, sDPut, tDisp, tPairs, iZipX, rIsiO, tFld, tMeth, tMake, sFld, tOrO, iEnumT, tDNewK, Cx.may, tRaise, tCallV, tTry, rRepT, rRep]
    rcases h with ⟨ti, q⟩ | ⟨a, t, n, rfl, tb, ne, q⟩ | ⟨a, t, rfl, tb, h⟩
    · exact ⟨_, rfl, v, rfl, .inl ⟨ti, q⟩⟩
    · exact ⟨_, rfl, _, rfl, .inr ⟨a, t, n, rfl, tb, fun H1 s1 => by rw [if_neg ne]; exact q H1 s1⟩⟩
    refine ⟨_, rfl, _, rfl, .inr ⟨a, t, _, rfl, tb, fun H1 s1 => ?_⟩⟩
    rw [if_pos (wid_self tb.wid).symm]
    have tb1 := tb.same s1
    rcases h with ⟨ti, q⟩ | ⟨j, rfl, hj, q⟩
    · obtain ⟨U, k, ti⟩ := ti
      exact ⟨_, rfl, _, rfl, a, t, _, x, false, rfl, tb1, ⟨U, kind_same k s1, ti⟩, q H1 s1⟩
    refine ⟨_, rfl, _, rfl, a, t, _, _, true, rfl, tb1, ⟨"int", rfl, .inr ⟨_, rfl, ?_⟩⟩, ?_⟩
    · unfold isT
      rw [decide_eq_true (by omega), decide_eq_true (by omega)]
      rfl
    show if true = true then _ else _
    rw [if_pos rfl]
    refine ⟨_, rfl, a, rfl, ⟨_, tb1.at'⟩, comp_enum (fun i => if (t.getD i []).getD j false = true then some (.int i) else none) tb1.at' tb1.size (fun i x hx => ?_) fun D H2 s2 n2 e2 => ?_⟩
    · intro H2 k s2 hk
      have hi : i < t.length := by
        have := (List.getElem?_eq_some_iff.mp hx).1
        rw [tabV_len] at this
        exact this
      obtain ⟨r, er⟩ : ∃ r, t[i]? = some r := ⟨_, List.getElem?_eq_getElem hi⟩
      have ex : x = .str (rowS r) := by
        rw [tabV_get er] at hx
        exact (Option.some.inj hx).symm
      subst ex
      have hw := tb.row er
      have hd : t.getD i [] = r := by simp [er]
      refine ⟨_, rfl, _, rfl, _, _, _, rfl, rfl, row_size (by rw [hw]; exact tb.wl), row_at (by rw [hw]; exact hj), rfl, _, rfl, ?_⟩
      rw [hd] at hk
      have key : decide (V.str ⟨#[sgn (r.getD j false)]⟩ = V.str (Str.ofString "x")) = r.getD j false := by
        rw [x_is]
        cases r.getD j false <;> decide
      rw [key]
      refine ite_cases (fun h => ?_) fun h => ?_
      · have h2 := hk _ (Same.refl _)
        rw [h, if_pos rfl] at h2
        exact ⟨_, rfl, h2⟩
      · have h2 := hk _ (Same.refl _)
        rw [h, if_neg Bool.false_ne_true] at h2
        exact h2
    · refine q D H2 (s1.trans s2) (s1.free n2) ?_
      rw [e2, tabV_len]
      unfold aheadL
      rw [List.map_filterMap]
      congr 2
      apply fm_congr
      intro i _
      split <;> rfl
end
end Wa
namespace Wa
open PySem PySem.Spec PyProof.Rows L2
/-- what a door refuses, and how -/
def Refu (K : PySem.W.Frag) (H : Hp) (cT cS cG : Addr) (d : Int) (v : V) (c : Addr) : Prop :=
  (0 ≤ d ∧ d ≤ 5 ∧ TabIn K H v false ∧ c = cT) ∨ (2 ≤ d ∧ d ≤ 5 ∧ (∃ a t w, v = .ref a ∧ Tb K H a t w ∧ t.length ≠ widT t) ∧ c = cS) ∨ (d = 6 ∧ ThIn K H 2 v false ∧ c = cG) ∨ (d = 5 ∧ (∃ a, v = .ref a ∧ Tb K H a [] 0) ∧ c = cG)
theorem ThIn.same {K : PySem.W.Frag} {H H' : Hp} {n : Nat} {x : V} {b : Bool} (h : ThIn K H n x b) (s : Same H H') : ThIn K H' n x b := let ⟨U, k, z⟩ := h; ⟨U, kind_same k s, z⟩
theorem Refu.same {K : PySem.W.Frag} {H H' : Hp} {cT cS cG c : Addr} {d : Int} {v : V} (h : Refu K H cT cS cG d v c) (s : Same H H') : Refu K H' cT cS cG d v c := by
  rcases h with ⟨h1, h2, h3, e⟩ | ⟨h1, h2, ⟨a, t, w, e1, h3, h4⟩, e⟩ | ⟨h1, h2, e⟩ | ⟨h1, ⟨a, e1, h2⟩, e⟩
  · exact .inl ⟨h1, h2, h3.same s, e⟩
  · exact .inr (.inl ⟨h1, h2, ⟨a, t, w, e1, h3.same s, h4⟩, e⟩)
  · exact .inr (.inr (.inl ⟨h1, h2.same s, e⟩))
  · exact .inr (.inr (.inr ⟨h1, ⟨a, e1, h2.same s⟩, e⟩))
def spAsk (K : PySem.W.Frag) (cT cS cG : Addr) : Sp := fun vs H _ E => ∃ d v c, vs = [.int d, v] ∧ Refu K H cT cS cG d v c ∧ ∀ H', Same H H' → E (.ref c) none H'
theorem five_le {a b c d e : V} : ([a, b, c, d, e].length : Nat) ≤ sizeLine := by show 5 ≤ sizeLine; decide
/-- the table that the things are asked of -/
theorem tab2 {K : PySem.W.Frag} {H : Hp} {p : Addr} (h : H p = some (.lst [.str (Str.ofString "-x"), .str (Str.ofString "--")])) : Tb K H p [[false, true], [false, false]] 2 :=
  ⟨.of h, by intro r hr; simp at hr; rcases hr with rfl | rfl <;> rfl, by decide, by decide⟩
section
variable {P : Program} {w : World} {K : PySem.W.Frag} {mg : Str → Option Value} {base : Heap} {cE cT cS cG : Addr}
theorem S__law_ask : FnScope ["_law_door", "_law_thing"] ["_law_door", "_law_thing"] (defScope (top 54)) := ⟨rfl, rfl, rfl, by decide +kernel, rfl, by decide +kernel, by decide +kernel⟩
set_option maxHeartbeats 2000000 in
theorem ok__law_ask {f f0 f1 f2 f3 f4 : Addr} {fd : FuncData} (F : Fun K "_law_ask" "_law_ask" (top 54) f fd) (T : Nm mg) (m_turned : mg "turned" = some (.ref f0)) (m_steps : mg "steps" = some (.ref f1)) (m_stretches : mg "stretches" = some (.ref f2)) (m_ranks : mg "ranks" = some (.ref f3)) (m_line : mg "line" = some (.ref f4))
    (k0 : CalC (CX1 P w) P w K mg base 5 f0 (spTurnedX K cT)) (k1 : CalC (CX1 P w) P w K mg base 5 f1 (spDoor1 K cT)) (k2 : CalC (CX1 P w) P w K mg base 5 f2 (spDoor2 K cT cS)) (k3 : CalC (CX1 P w) P w K mg base 5 f3 (spDoor2 K cT cS)) (k4 : CalC (CX1 P w) P w K mg base 5 f4 (spDoor2 K cT cS))
    (c_ahead_of : DefX P w K mg base 5 "ahead_of" ["table", "thing"] (spAheadX K cT cS cG)) : FnOk P w K mg base (CX1 P w) 6 f fd ["_law_door", "_law_thing"] (spAsk K cT cS cG) := by
  have S := S__law_ask
  refine F.okx S (fun vs H Q E h => ?_) (fun cdv A outer s H vs Q E hr h => ?_)
  · obtain ⟨d, v, c, rfl, _⟩ := h
    rfl
  · obtain ⟨d, v, c, rfl, rf, q⟩ := h
    refine ⟨_, (pss_cons (ps_if (pt_cmpR op_lt (pv 0) pe_int (nomark _)) (pss_one (ps_ret (pe_callV hr pass1 (pe_ix ix_list (pe_lst (pa_cons (pe_glob (v := .ref _) (by rfl) m_turned rfl) (pa_cons (pe_glob (v := .ref _) (by rfl) m_steps rfl) (pa_cons (pe_glob (v := .ref _) (by rfl) m_stretches rfl) (pa_cons (pe_glob (v := .ref _) (by rfl) m_ranks rfl) (pa_cons (pe_glob (v := .ref _) (by rfl) m_line rfl) pa_nil)))))) (pv 0) (fun _ _ => rfl)) (pa_cons (pv 1) pa_nil)))) pss_nil)
      (pss_one (ps_ret (pe_ifExp (pt_cmpR op_eq (pv 0) pe_int (nomark _)) (pe_callX c_ahead_of hr (by rfl) (pa_cons (pv 1) (pa_cons pe_non pa_nil))) (pe_callX c_ahead_of hr (by rfl) (pa_cons (pe_lst (pa_cons pe_str (pa_cons pe_str pa_nil))) (pa_cons (pv 1) pa_nil))))))), ?_⟩
    dsimp only [cxComp, cxOf, Cx.wish, tRet, tRetN, tSeq, tNext, tIfS, tDrop, tNot, tB, tTest, tAnd, tOr, tAndV, tOrV, tNotV, tIf, tCB, tCons, tNil, tVar, tC, tOp, tUn, tBM, tBM0, tCall, tLst, tTup, tAsg, tPar, tSl, tSl3, tNoPart, tPart, tChain, tComp, tCompS, iList, iRng1, iRng2, iEnum, iZip, rI, rI0, rU, rEq, rNe, rIxL, rIxT, rIxS, rIx, rSlL, rSlS, rCat, rEqL, rIsi, rAppend, rPop, rSetL, gSub, tDGet, tDIn, sDPut, tDisp, tPairs, iZipX, rIsiO, tFld, tMeth, tMake, sFld, tOrO, iEnumT, tDNewK, Cx.may, tRaise, tCallV, tTry, rRepT, rRep]
    refine ⟨_, rfl, _, _, rfl, rfl, _, rfl, ite_cases (fun hd => ?_) fun hd => ?_⟩
    · have hd' : d < 5 := by simpa using hd
      refine ⟨five_le, fun p hp => ⟨_, rfl, ?_⟩⟩
      have s1 : Same H (upd H p (.lst [.ref f0, .ref f1, .ref f2, .ref f3, .ref f4])) := (Same.refl H).upd hp
      have e1 : (upd H p (.lst [.ref f0, .ref f1, .ref f2, .ref f3, .ref f4])) p = some (.lst [.ref f0, .ref f1, .ref f2, .ref f3, .ref f4]) := upd_same
      generalize upd H p (.lst [.ref f0, .ref f1, .ref f2, .ref f3, .ref f4]) = H1 at s1 e1 ⊢
      have rf1 := rf.same s1
      have q1 : ∀ H', Same H1 H' → E (.ref c) none H' := fun H' s' => q H' (s1.trans s')
      rcases rf1 with ⟨h1, h2, ti, rfl⟩ | ⟨h1, h2, ⟨a, t, n, rfl, tb, ne⟩, rfl⟩ | ⟨h1, _, _⟩ | ⟨h1, _, _⟩
      · have hd5 : d = 0 ∨ d = 1 ∨ d = 2 ∨ d = 3 ∨ d = 4 := by omega
        rcases hd5 with rfl | rfl | rfl | rfl | rfl
        · exact ⟨p, _, _, _, rfl, rfl, .of e1, rfl, f0, _, rfl, k0, _, rfl, v, rfl, .inl ⟨ti, q1⟩⟩
        · exact ⟨p, _, _, _, rfl, rfl, .of e1, rfl, f1, _, rfl, k1, _, rfl, v, rfl, ti, q1⟩
        · exact ⟨p, _, _, _, rfl, rfl, .of e1, rfl, f2, _, rfl, k2, _, rfl, v, rfl, .inl ⟨ti, q1⟩⟩
        · exact ⟨p, _, _, _, rfl, rfl, .of e1, rfl, f3, _, rfl, k3, _, rfl, v, rfl, .inl ⟨ti, q1⟩⟩
        · exact ⟨p, _, _, _, rfl, rfl, .of e1, rfl, f4, _, rfl, k4, _, rfl, v, rfl, .inl ⟨ti, q1⟩⟩
      · have hd3 : d = 2 ∨ d = 3 ∨ d = 4 := by omega
        rcases hd3 with rfl | rfl | rfl
        · exact ⟨p, _, _, _, rfl, rfl, .of e1, rfl, f2, _, rfl, k2, _, rfl, _, rfl, .inr ⟨a, t, n, rfl, tb, ne, q1⟩⟩
        · exact ⟨p, _, _, _, rfl, rfl, .of e1, rfl, f3, _, rfl, k3, _, rfl, _, rfl, .inr ⟨a, t, n, rfl, tb, ne, q1⟩⟩
        · exact ⟨p, _, _, _, rfl, rfl, .of e1, rfl, f4, _, rfl, k4, _, rfl, _, rfl, .inr ⟨a, t, n, rfl, tb, ne, q1⟩⟩
      · omega
      · omega
    · have hd' : ¬ d < 5 := by simpa using hd
      refine ⟨_, rfl, rfl, _, rfl, ?_⟩
      rcases rf with ⟨h1, h2, ti, rfl⟩ | ⟨h1, h2, ⟨a, t, n, rfl, tb, ne⟩, rfl⟩ | ⟨rfl, ti, rfl⟩ | ⟨rfl, ⟨a, rfl, tb⟩, rfl⟩
      · obtain rfl : d = 5 := by omega
        exact iteTb rfl ⟨_, rfl, v, _, rfl, .inl ⟨ti, q⟩⟩
      · obtain rfl : d = 5 := by omega
        exact iteTb rfl ⟨_, rfl, _, _, rfl, .inr (.inl ⟨a, t, n, rfl, tb, ne, q⟩)⟩
      · refine iteFb rfl ⟨two_le, fun p hp => ⟨_, rfl, ?_⟩⟩
        have s1 : Same H (upd H p (.lst [.str (Str.ofString "-x"), .str (Str.ofString "--")])) := (Same.refl H).upd hp
        exact ⟨_, v, rfl, .inr (.inr ⟨p, _, rfl, tab2 upd_same, .inl ⟨ti.same s1, fun H' s' => q H' (s1.trans s')⟩⟩)⟩
      · exact iteTb rfl ⟨_, rfl, _, _, rfl, .inr (.inr ⟨a, [], rfl, tb, .inl ⟨⟨"NoneType", rfl, .inl ⟨by decide, rfl⟩⟩, q⟩⟩)⟩
end
end Wa
namespace Wa
open PySem PySem.Spec PyProof.Rows L2
/-- the class of a refusal: the k-th -/
structure Kc (K : PySem.W.Frag) (cE cT cS cG : Addr) (k : Int) (c : Addr) : Prop where
  x : Xc K c
  up : PySem.W.subIn K (.ref c) (.ref cE) = some true
  t : PySem.W.kitOne K (.ref c) (.ref cT) = some (decide ((0 : Int) = k))
  s : PySem.W.kitOne K (.ref c) (.ref cS) = some (decide ((1 : Int) = k))
  g : PySem.W.kitOne K (.ref c) (.ref cG) = some (decide ((2 : Int) = k))
  v : PySem.W.kitOne K (.ref c) (.type "ValueError") = some true
def spDue (K : PySem.W.Frag) (cE cT cS cG : Addr) : Sp := fun vs H Q _ => ∃ d v k c, vs = [.int d, v, .int k] ∧ Refu K H cT cS cG d v c ∧ Kc K cE cT cS cG k c ∧ ∀ H', Same H H' → Q (.bl true) H'
theorem bt_ValueError : bootBuiltins "ValueError" = some (.type "ValueError") := by decide +kernel
theorem comp_rangeH {lσ : L2.St} {tc : TT} {te : TE} {H1 : Hp} {Q : VK} {x C : Addr} {n i0 : Nat} (hx : H1 x = some (ExcO C x)) (f : Nat → Option V) (hz : n ≤ sizeLine) (hs : ∀ i, i < n → Gv tc te (lσ.set i0 (some (.int i))) H1 (f i))
    (hd : ∀ D H', Same H1 H' → H1 D = none → H' D = some (.lst ((List.range n).filterMap f)) → Q (.ref D) H') : CompV (ItH x n) lσ (gName i0) tc te H1 Q := by
  refine compW_of f hz (fun i H s hi => hi) (fun H s => ⟨Nat.le_refl _, C, s _ _ hx⟩) (fun i hi H k s hk y H' z => ?_) hd
  obtain ⟨e, z⟩ := z
  subst e z
  exact hs i hi _ k s hk
section
variable {P : Program} {w : World} {K : PySem.W.Frag} {mg : Str → Option Value} {base : Heap} {cE cT cS cG : Addr}
theorem S__law_due : FnScope ["_law_door", "_law_thing", "_law_due_here", "error", "_law_found"] ["_law_door", "_law_thing", "_law_due_here"] (defScope (top 55)) := ⟨rfl, rfl, rfl, by decide +kernel, rfl, by decide +kernel, by decide +kernel⟩
set_option maxHeartbeats 4000000 in
theorem ok__law_due {f : Addr} {fd : FuncData} (F : Fun K "_law_due" "_law_due" (top 55) f fd) (T : Nm mg) (n_ValueError : mg "ValueError" = none) (m_TableError : mg "TableError" = some (.ref cE)) (m_BadTable : mg "BadTable" = some (.ref cT)) (m_BadSquare : mg "BadSquare" = some (.ref cS)) (m_BadThing : mg "BadThing" = some (.ref cG))
    (hD : PySem.W.subIn K (.ref cE) (.type "BaseException") = some true) (hD2 : (PySem.W.clsIn K cE).isSome = true) (hD3 : PySem.W.typeIn K (.ref cE) = some (.type "type"))
    (c_law_ask : DefX P w K mg base 6 "_law_ask" ["_law_door", "_law_thing"] (spAsk K cT cS cG)) : FnOk P w K mg base CX0 7 f fd ["_law_door", "_law_thing", "_law_due_here"] (spDue K cE cT cS cG) := by
  have S := S__law_due
  obtain ⟨fa, fda, Fa, ma, ka, ba⟩ := c_law_ask.ex
  refine F.ok S (fun vs H Q E h => ?_) (fun cdv A outer s H vs Q E hr h => ?_)
  · obtain ⟨d, v, k, c, rfl, _⟩ := h
    rfl
  · obtain ⟨d, v, k, c, rfl, rf, kc, q⟩ := h
    refine ⟨_, (pss_cons (ps_try (i := 3) rfl rfl Fa hr (by rfl) ma ka ba (pa_cons (pv 0) (pa_cons (pv 1) pa_nil)) (by rfl) m_TableError hD hD2 hD3 S.nd rfl (by rfl) (fun x =>
      (pss_cons (ps_set (i := 4) S.nd rfl (by first | exact Or.inl rfl | exact Or.inr rfl) (pe_lst (pa_cons (pe_callB call_isiX (by rfl) T.n_isinstance bt_isinstance (pa_cons (pv 3) (pa_cons (pe_glob (v := .ref _) (by rfl) m_BadTable rfl) pa_nil)))
        (pa_cons (pe_callB call_isiX (by rfl) T.n_isinstance bt_isinstance (pa_cons (pv 3) (pa_cons (pe_glob (v := .ref _) (by rfl) m_BadSquare rfl) pa_nil))) (pa_cons (pe_callB call_isiX (by rfl) T.n_isinstance bt_isinstance (pa_cons (pv 3) (pa_cons (pe_glob (v := .ref _) (by rfl) m_BadThing rfl) pa_nil))) pa_nil)))))
      (pss_one (ps_ret (pe_and (pe_cmpR (op_eqL hr.units0) (pv 4) (pe_compH (x := x) (n := 3) rfl (N := ["_law_k", "_law_due_here"]) (lift := [none, some 2]) (.of (by kernel_rfl)) (by rfl) T.n_range (pa_cons pe_int pa_nil)
        (fun b => (pg_name (i := 0) (show (["_law_k", "_law_due_here"] : List Str).Nodup from by decide +kernel) rfl (by first | exact Or.inl rfl | exact Or.inr rfl))) (fun b => pifs_nil) (fun b => (pe_cmpR op_eq (pv 0) (pv 1) (nomark _)))) (nomark _))
        (pe_one (pe_callB call_isiX (by rfl) T.n_isinstance bt_isinstance (pa_cons (pv 3) (pa_cons (pe_bltn (v := .ty "ValueError") (by rfl) n_ValueError bt_ValueError rfl) pa_nil)))))))))) (pss_one (ps_ret pe_bl))), ?_⟩
    dsimp only [cxComp, cxOf, Cx.wish, tRet, tRetN, tSeq, tNext, tIfS, tDrop, tNot, tB, tTest, tAnd, tOr, tAndV, tOrV, tNotV, tIf, tCB, tCons, tNil, tVar, tC, tOp, tUn, tBM, tBM0, tCall, tLst, tTup, tAsg, tPar, tSl, tSl3, tNoPart, tPart, tChain, tComp, tCompS, iList, iRng1, iRng2, iEnum, iZip, rI, rI0, rU, rEq, rNe, rIxL, rIxT, rIxS, rIx, rSlL, rSlS, rCat, rEqL, rIsi, rAppend, rPop, rSetL, gSub, tDGet, tDIn, sDPut, tDisp, tPairs, iZipX, rIsiO, tFld, tMeth, tMake, sFld, tOrO, iEnumT, tDNewK, Cx.may, tRaise, tCallV, tTry, rRepT, rRep]
    refine ⟨_, rfl, _, rfl, d, v, c, rfl, rf, fun H1 s1 => ⟨c, rfl, kc.up, fun x hx => ?_⟩⟩
    have s2 : Same H1 (upd H1 x (ExcO c x)) := (Same.refl H1).upd hx
    have e2 : (upd H1 x (ExcO c x)) x = some (ExcO c x) := upd_same
    generalize upd H1 x (ExcO c x) = H2 at s2 e2 ⊢
    try dsimp only [rIsiX]
    refine ⟨_, rfl, x, c, _, e2, kc.x, .inl ⟨_, rfl, kc.t⟩, _, rfl, x, c, _, e2, kc.x, .inl ⟨_, rfl, kc.s⟩, _, rfl, x, c, _, e2, kc.x, .inl ⟨_, rfl, kc.g⟩, three_le, fun p hp => ?_⟩
    have s3 : Same H2 (upd H2 p (.lst [.bl (decide ((0 : Int) = k)), .bl (decide ((1 : Int) = k)), .bl (decide ((2 : Int) = k))])) := (Same.refl H2).upd hp
    have e3 : (upd H2 p (.lst [.bl (decide ((0 : Int) = k)), .bl (decide ((1 : Int) = k)), .bl (decide ((2 : Int) = k))])) p = some (.lst [.bl (decide ((0 : Int) = k)), .bl (decide ((1 : Int) = k)), .bl (decide ((2 : Int) = k))]) := upd_same
    generalize upd H2 p (.lst [.bl (decide ((0 : Int) = k)), .bl (decide ((1 : Int) = k)), .bl (decide ((2 : Int) = k))]) = H3 at s3 e3 ⊢
    try dsimp only [iRngH]
    refine ⟨_, rfl, rfl, (by decide), comp_rangeH (s3 _ _ e2) (fun i => some (.bl (decide ((i : Int) = k)))) (by decide) (fun i hi => .map fun H4 kk s4 hk => ?_) fun D H4 s4 n4 e4 => ?_⟩
    · refine ⟨_, rfl, _, rfl, rfl, ?_⟩
      have e : decide (V.int (i : Int) = V.int k) = decide ((i : Int) = k) := by
        congr 1
        simp
      rw [e]
      exact hk _ (Same.refl _)
    refine ⟨p, D, _, _, rfl, rfl, .of (s4 _ _ e3), .of e4, rfl, rfl, _, rfl, iteTb ?_ ?_⟩
    · have e5 : (List.range 3).filterMap (fun i : Nat => some (V.bl (decide ((i : Int) = k)))) = [.bl (decide ((0 : Int) = k)), .bl (decide ((1 : Int) = k)), .bl (decide ((2 : Int) = k))] := rfl
      rw [e5]
      cases decide ((0 : Int) = k) <;> cases decide ((1 : Int) = k) <;> cases decide ((2 : Int) = k) <;> rfl
    · exact ⟨_, rfl, x, c, _, s4 _ _ (s3 _ _ e2), kc.x, .inr ⟨_, rfl, kc.v⟩, q H4 (s1.trans (s2.trans (s3.trans s4)))⟩
end
end Wa
namespace Wa
open PySem PySem.Spec PyProof.Rows L2
/-- a maker of m things -/
def spSome (m : Nat) (ok : Hp → V → Prop) : Sp := fun vs H Q _ => ∃ n : Int, vs = [.int n] ∧ 0 ≤ n ∧ ∀ D xs H', Same H H' → H D = none → H' D = some (.lst xs) → xs.length = m → (∀ x ∈ xs, ok H' x) → Q (.ref D) H'
def AllIn (ok : Hp → V → Prop) (H : Hp) (l : List V) : Prop := ∀ x ∈ l, ok H x
theorem AllIn.nil {ok : Hp → V → Prop} {H : Hp} : AllIn ok H [] := fun _ h => nomatch h
section
variable {ok : Hp → V → Prop} (mono : ∀ x H H', ok H x → Same H H' → ok H' x) {H H' : Hp} {l : List V} {x : V}
include mono
theorem AllIn.same (A : AllIn ok H l) (s : Same H H') : AllIn ok H' l := fun y hy => mono y H H' (A y hy) s
theorem AllIn.push (A : AllIn ok H l) (s : Same H H') (b : ok H' x) : AllIn ok H' (l ++ [x]) := fun y hy => by
  rcases List.mem_append.mp hy with h | h
  · exact mono y H H' (A y h) s
  · rw [List.mem_singleton.mp h]; exact b
end
/-- a cell that is written out -/
def litV : V → Bool
  | .non => true
  | .bl _ => true
  | .int _ => true
  | .str z => decide (z.length ≤ 1000)
  | _ => false
theorem lit_cell {K : PySem.W.Frag} {H : Hp} {x : V} (h : litV x = true) : CellIn K H x := by
  cases x with
  | non => exact ⟨⟨_, rfl⟩, fun z e => nomatch e⟩
  | bl b => exact ⟨⟨_, rfl⟩, fun z e => nomatch e⟩
  | int i => exact ⟨⟨_, rfl⟩, fun z e => nomatch e⟩
  | str z => exact ⟨⟨_, rfl⟩, fun y e => by cases e; simpa [litV] using h⟩
  | _ => cases h
theorem le100 {n : Nat} (h : n ≤ 100) : n ≤ sizeLine := Nat.le_trans h (by decide)
theorem mul5 (n : Int) : (Str.ofString "-x").length + (Txt.mul (Str.ofString "-") (1 + n % 5)).length ≤ 100 ∧ [V.str (Str.ofString "-x"), V.str (Str.ofString "-x" ++ Txt.mul (Str.ofString "-") (1 + n % 5))].all litV = true ∧ tabG [V.str (Str.ofString "-x"), V.str (Str.ofString "-x" ++ Txt.mul (Str.ofString "-") (1 + n % 5))] = false := by
  have h : n % 5 = 0 ∨ n % 5 = 1 ∨ n % 5 = 2 ∨ n % 5 = 3 ∨ n % 5 = 4 := by omega
  rcases h with e | e | e | e | e <;> (rw [e]; decide +kernel)
theorem rep4 (n : Int) : ((List.replicate (1 + n % 4).toNat [V.str (Str.ofString "x-x")]).flatten ++ [V.str (Str.ofString "x-")]).length ≤ 100 ∧ ((List.replicate (1 + n % 4).toNat [V.str (Str.ofString "x-x")]).flatten ++ [V.str (Str.ofString "x-")]).all litV = true ∧ tabG ((List.replicate (1 + n % 4).toNat [V.str (Str.ofString "x-x")]).flatten ++ [V.str (Str.ofString "x-")]) = false := by
  have h : n % 4 = 0 ∨ n % 4 = 1 ∨ n % 4 = 2 ∨ n % 4 = 3 := by omega
  rcases h with e | e | e | e <;> (rw [e]; decide +kernel)
abbrev okT (K : PySem.W.Frag) : Hp → V → Prop := fun H x => TabIn K H x false
theorem okT_mono {K : PySem.W.Frag} : ∀ x H H', okT K H x → Same H H' → okT K H' x := fun _ _ _ h s => h.same s
section
variable {K : PySem.W.Frag} {H H' : Hp} {l : List V} {p : Addr} {xs : List V}
theorem in_kind {x : V} {T : String} (k : KindV K x H T) (e : subT T "list" = false) : okT K H x := .inl ⟨T, k, e, rfl⟩
theorem in_lst (h : H p = some (.lst xs)) (hl : xs.length ≤ 100) (c : ∀ x ∈ xs, CellIn K H x) (e : tabG xs = false) : okT K H (.ref p) := .inr ⟨p, xs, rfl, .of h, hl, c, e.symm⟩
theorem in_lit (h : H p = some (.lst xs)) (hl : xs.length ≤ 100) (c : xs.all litV = true) (e : tabG xs = false) : okT K H (.ref p) := in_lst h hl (fun x hx => lit_cell (List.all_eq_true.mp c x hx)) e
theorem in_tup (h : H p = some (.tup xs)) : okT K H (.ref p) := in_kind (x := .ref p) (T := "tuple") (show KindV K (.ref p) H "tuple" from Or.inr (Or.inl ⟨rfl, xs, .of h⟩)) (by decide)
theorem in_dict {kvs : List (Key × V)} (h : H p = some (.dK kvs)) : okT K H (.ref p) := in_kind (x := .ref p) (T := "dict") (show KindV K (.ref p) H "dict" from Or.inr (Or.inr ⟨rfl, kvs, h⟩)) (by decide)
/-- one more list of written cells -/
theorem AllIn.lit (A : AllIn (okT K) H l) (hp : H p = none) (hl : xs.length ≤ 100) (c : xs.all litV = true) (e : tabG xs = false) : AllIn (okT K) (upd H p (.lst xs)) (l ++ [.ref p]) ∧ Same H (upd H p (.lst xs)) :=
  have s : Same H (upd H p (.lst xs)) := (Same.refl H).upd hp
  ⟨AllIn.push okT_mono A s (in_lit upd_same hl c e), s⟩
theorem upd3 {H : Hp} {p L : Addr} {x y z : HO} (h : p ≠ L) : upd (upd (upd H L x) p y) L z = upd (upd H p y) L z := by
  funext b
  by_cases hb : b = L
  · rw [hb, upd_same, upd_same]
  · rw [upd_ne hb, upd_ne hb]
    by_cases hc : b = p
    · rw [hc, upd_same, upd_same]
    · rw [upd_ne hc, upd_ne hc, upd_ne hb]
/-- one more plain value -/
theorem AllIn.val {x : V} {T : String} (A : AllIn (okT K) H l) (k : KindV K x H T) (e : subT T "list" = false) : AllIn (okT K) H (l ++ [x]) := AllIn.push okT_mono A (Same.refl H) (in_kind k e)
end
end Wa
namespace Wa
open PySem PySem.Spec PyProof.Rows L2
section
variable {P : Program} {w : World} {K : PySem.W.Frag} {mg : Str → Option Value} {base : Heap}
theorem S__law_tables : FnScope ["_law_cell", "_law_some"] ["_law_cell"] (defScope (top 56)) := ⟨rfl, rfl, rfl, by decide +kernel, rfl, by decide +kernel, by decide +kernel⟩
set_option maxHeartbeats 4000000 in
theorem ok__law_tables {f : Addr} {fd : FuncData} (F : Fun K "_law_tables" "_law_tables" (top 56) f fd) (T : Nm mg) : FnOk P w K mg base CX0 1 f fd ["_law_cell"] (spSome 25 (okT K)) := by
  have S := S__law_tables
  refine F.ok S (fun vs H Q E h => ?_) (fun cdv A outer s H vs Q E hr h => ?_)
  · obtain ⟨n, rfl, _⟩ := h
    rfl
  · obtain ⟨n, rfl, hn, q⟩ := h
    refine ⟨?t, ?h, ?_⟩
    case h =>
      refine' pss_cons ?p1 ?p2
      case p1 =>
       refine' ps_set (i := 1) S.nd rfl (by first | exact Or.inl rfl | exact Or.inr rfl) ?p3
       case p3 =>
        refine' pe_lst ?p4
        case p4 =>
         refine' pa_consK pe_non ?p5
         case p5 =>
          refine' pa_consK pe_str ?p6
          case p6 =>
           refine' pa_consT ?p7 ?p8
           case p7 =>
            refine' pe_tup ?p9
            case p9 =>
             exact (pa_consK pe_str pa_nil)
           case p8 =>
            refine' pa_consD pe_dnewK ?p10
            case p10 =>
             refine' pa_consK pe_int ?p11
             case p11 =>
              refine' pa_consN (pv 0) ?p12
              case p12 =>
               refine' pa_consL ?p13 ?p14
               case p13 =>
                refine' pe_lst ?p15
                case p15 =>
                 exact (pa_consK pe_non pa_nil)
               case p14 =>
                refine' pa_consL ?p16 ?p17
                case p16 =>
                 refine' pe_lst ?p18
                 case p18 =>
                  exact (pa_consK pe_int pa_nil)
                case p17 =>
                 refine' pa_consL ?p19 ?p20
                 case p19 =>
                  refine' pe_lst ?p21
                  case p21 =>
                   exact (pa_consN (pv 0) pa_nil)
                 case p20 =>
                  refine' pa_consL ?p22 ?p23
                  case p22 =>
                   refine' pe_lst ?p24
                   case p24 =>
                    refine' pa_consK pe_str ?p25
                    case p25 =>
                     exact (pa_consK pe_non pa_nil)
                  case p23 =>
                   refine' pa_consL ?p26 pa_nil
                   case p26 =>
                    refine' pe_lst ?p27
                    case p27 =>
                     refine' pa_consL ?p28 pa_nil
                     case p28 =>
                      refine' pe_lst ?p29
                      case p29 =>
                       exact (pa_consK pe_str pa_nil)
      case p2 =>
       refine' pss_cons ?p30 ?p31
       case p30 =>
        refine' ps_set (i := 1) S.nd rfl (by first | exact Or.inl rfl | exact Or.inr rfl) ?p32
        case p32 =>
         refine' pe_op op_cat (pv 1) ?p33
         case p33 =>
          refine' pe_lst ?p34
          case p34 =>
           refine' pa_consL ?p35 ?p36
           case p35 =>
            refine' pe_lst ?p37
            case p37 =>
             exact (pa_consK pe_str pa_nil)
           case p36 =>
            refine' pa_consL ?p38 ?p39
            case p38 =>
             refine' pe_lst ?p40
             case p40 =>
              exact (pa_consK pe_str pa_nil)
            case p39 =>
             refine' pa_consL ?p41 ?p42
             case p41 =>
              refine' pe_lst ?p43
              case p43 =>
               exact (pa_consK pe_str pa_nil)
             case p42 =>
              refine' pa_consL ?p44 ?p45
              case p44 =>
               refine' pe_lst ?p46
               case p46 =>
                refine' pa_consK pe_str ?p47
                case p47 =>
                 exact (pa_consK pe_str pa_nil)
              case p45 =>
               refine' pa_consL ?p48 ?p49
               case p48 =>
                refine' pe_lst ?p50
                case p50 =>
                 refine' pa_consK pe_str ?p51
                 case p51 =>
                  exact (pa_consK pe_str pa_nil)
               case p49 =>
                refine' pa_consL ?p52 ?p53
                case p52 =>
                 refine' pe_lst ?p54
                 case p54 =>
                  refine' pa_consK pe_str ?p55
                  case p55 =>
                   exact (pa_consK pe_str pa_nil)
                case p53 =>
                 refine' pa_consL ?p56 ?p57
                 case p56 =>
                  refine' pe_lst ?p58
                  case p58 =>
                   refine' pa_consK pe_str ?p59
                   case p59 =>
                    exact (pa_consK pe_str pa_nil)
                 case p57 =>
                  refine' pa_consL ?p60 ?p61
                  case p60 =>
                   refine' pe_lst ?p62
                   case p62 =>
                    exact (pa_consK pe_str pa_nil)
                  case p61 =>
                   refine' pa_consL ?p63 ?p64
                   case p63 =>
                    refine' pe_lst ?p65
                    case p65 =>
                     exact (pa_consK pe_str pa_nil)
                   case p64 =>
                    refine' pa_consL ?p66 pa_nil
                    case p66 =>
                     refine' pe_lst ?p67
                     case p67 =>
                      refine' pa_consK pe_str ?p68
                      case p68 =>
                       exact (pa_consK pe_str pa_nil)
       case p31 =>
        refine' pss_cons ?p69 ?p70
        case p69 =>
         refine' ps_expr ?p71
         case p71 =>
          refine' pe_bm PySem.F.plainAttrs_list PySem.F.slot_list_append PySem.F.type_list_append mt_append (pv 1) ?p72
          case p72 =>
           refine' pa_consL ?p73 pa_nil
           case p73 =>
            refine' pe_lst ?p74
            case p74 =>
             refine' pa_consK pe_str ?p75
             case p75 =>
              refine' pa_consB ?p76 pa_nil
              case p76 =>
               refine' pe_op op_add_str pe_str ?p77
               case p77 =>
                refine' pe_op op_rep_str pe_str ?p78
                case p78 =>
                 refine' pe_op op_add pe_int ?p79
                 case p79 =>
                  exact (pe_op op_mod (pv 0) pe_int)
        case p70 =>
         refine' pss_one ?p80
         case p80 =>
          refine' ps_ret ?p81
          case p81 =>
           refine' pe_op op_cat (pv 1) ?p82
           case p82 =>
            refine' pe_lst ?p83
            case p83 =>
             refine' pa_consL ?p84 ?p85
             case p84 =>
              refine' pe_lst ?p86
              case p86 =>
               refine' pa_consK pe_str ?p87
               case p87 =>
                refine' pa_consK pe_str ?p88
                case p88 =>
                 exact (pa_consK pe_bl pa_nil)
             case p85 =>
              refine' pa_consL ?p89 ?p90
              case p89 =>
               refine' pe_lst ?p91
               case p91 =>
                refine' pa_consT ?p92 pa_nil
                case p92 =>
                 refine' pe_tup ?p93
                 case p93 =>
                  exact (pa_consK pe_str pa_nil)
              case p90 =>
               refine' pa_consB ?p94 pa_nil
               case p94 =>
                refine' pe_op op_cat ?p95 ?p96
                case p95 =>
                 refine' pe_op op_rep ?p97 ?p98
                 case p97 =>
                  refine' pe_lst ?p99
                  case p99 =>
                   exact (pa_consK pe_str pa_nil)
                 case p98 =>
                  refine' pe_op op_add pe_int ?p100
                  case p100 =>
                   exact (pe_op op_mod (pv 0) pe_int)
                case p96 =>
                 refine' pe_lst ?p101
                 case p101 =>
                  exact (pa_consK pe_str pa_nil)
    refine seq_cut (fun σ' H' => ∃ L xs, σ' = [some (.int n), some (.ref L)] ∧ Same H H' ∧ H' L = some (.lst xs) ∧ xs.length = 11 ∧ AllIn (okT K) H' xs) (fun nx' hnx => ?_) ?_
    · dsimp only [cxComp, cxOf, Cx.wish, tRet, tRetN, tSeq, tNext, tIfS, tDrop, tNot, tB, tTest, tAnd, tOr, tAndV, tOrV, tNotV, tIf, tCB, tCons, tNil, tVar, tC, tOp, tUn, tBM, tBM0, tCall, tLst, tTup, tAsg, tPar, tSl, tSl3, tNoPart, tPart, tChain, tComp, tCompS, iList, iRng1, iRng2, iEnum, iZip, rI, rI0, rU, rEq, rNe, rIxL, rIxT, rIxS, rIx, rSlL, rSlS, rCat, rEqL, rIsi, rAppend, rPop, rSetL, gSub, tDGet, tDIn, sDPut, tDisp, tPairs, iZipX, rIsiO, tFld, tMeth, tMake, sFld, tOrO, iEnumT, tDNewK, Cx.may, tRaise, tCallV, tTry, rRepT, rRep]
      refine ⟨one_le, fun p1 h1 p2 h2 => ⟨_, rfl, one_le, fun p3 h3 => ⟨one_le, fun p4 h4 => ⟨_, rfl, one_le, fun p5 h5 => ⟨two_le, fun p6 h6 => ⟨one_le, fun p7 h7 => ⟨one_le, fun p8 h8 => ⟨le100 (Nat.le_of_ble_eq_true rfl), fun L hL => hnx _ _ ?_⟩⟩⟩⟩⟩⟩⟩⟩
      have A0 : AllIn (okT K) H [] := .nil
      have A2 := (A0.val (x := .non) rfl (by decide)).val (x := .str (Str.ofString "x")) rfl (by decide)
      have A3 := AllIn.push okT_mono A2 ((Same.refl H).upd (o := .tup [.str (Str.ofString "x")]) h1) (in_tup upd_same)
      have A4 := AllIn.push okT_mono A3 ((Same.refl _).upd (o := .dK []) h2) (in_dict upd_same)
      have A6 := (A4.val (x := .int 5) rfl (by decide)).val (x := .int n) rfl (by decide)
      have A7 := (A6.lit (xs := [.non]) h3 (by decide) rfl rfl).1
      have A8 := (A7.lit (xs := [.int 5]) h4 (by decide) rfl rfl).1
      have A9 := (A8.lit (xs := [.int n]) h5 (Nat.le_of_ble_eq_true rfl) rfl rfl).1
      have A10 := (A9.lit (xs := [.str (Str.ofString "x"), .non]) h6 (by decide) (by decide +kernel) (by decide +kernel)).1
      have s7 := (Same.refl _).upd (o := .lst [.str (Str.ofString "x")]) h7
      have s8 := (Same.refl _).upd (o := .lst [.ref p7]) h8
      have A11 := AllIn.push (x := .ref p8) okT_mono A10 (s7.trans s8) (in_lst upd_same (Nat.le_of_ble_eq_true rfl) (fun x hx => by
        rw [List.mem_singleton.mp hx]
        exact ⟨⟨"list", kind_list (.of (s8 _ _ upd_same))⟩, fun z e => nomatch e⟩) rfl)
      have s0 := (((((((Same.refl H).upd (o := .tup [.str (Str.ofString "x")]) h1).upd (o := .dK []) h2).upd (o := .lst [.non]) h3).upd (o := .lst [.int 5]) h4).upd (o := .lst [.int n]) h5).upd (o := .lst [.str (Str.ofString "x"), .non]) h6).trans (s7.trans s8)
      exact ⟨L, _, rfl, s0.upd hL, upd_same, rfl, AllIn.same okT_mono A11 ((Same.refl _).upd hL)⟩
    rintro σ1 H1 ⟨L, xs, rfl, s1, eL, xl, A⟩
    refine seq_cut (fun σ' H' => ∃ L2 Hb ys, σ' = [some (.int n), some (.ref L2)] ∧ H' = upd Hb L2 (.lst ys) ∧ Same H Hb ∧ Hb L2 = none ∧ ys.length = 21 ∧ AllIn (okT K) Hb ys) (fun nx' hnx => ?_) ?_
    · dsimp only [cxComp, cxOf, Cx.wish, tRet, tRetN, tSeq, tNext, tIfS, tDrop, tNot, tB, tTest, tAnd, tOr, tAndV, tOrV, tNotV, tIf, tCB, tCons, tNil, tVar, tC, tOp, tUn, tBM, tBM0, tCall, tLst, tTup, tAsg, tPar, tSl, tSl3, tNoPart, tPart, tChain, tComp, tCompS, iList, iRng1, iRng2, iEnum, iZip, rI, rI0, rU, rEq, rNe, rIxL, rIxT, rIxS, rIx, rSlL, rSlS, rCat, rEqL, rIsi, rAppend, rPop, rSetL, gSub, tDGet, tDIn, sDPut, tDisp, tPairs, iZipX, rIsiO, tFld, tMeth, tMake, sFld, tOrO, iEnumT, tDNewK, Cx.may, tRaise, tCallV, tTry, rRepT, rRep]
      refine ⟨_, rfl, one_le, fun p1 h1 => ⟨one_le, fun p2 h2 => ⟨one_le, fun p3 h3 => ⟨two_le, fun p4 h4 => ⟨two_le, fun p5 h5 => ⟨two_le, fun p6 h6 => ⟨two_le, fun p7 h7 => ⟨one_le, fun p8 h8 => ⟨one_le, fun p9 h9 => ⟨two_le, fun p10 h10 => ⟨le100 (Nat.le_of_ble_eq_true rfl), fun M hM => ⟨L, M, xs, _, rfl, rfl, ?_, upd_same, le100 (by rw [xl]; exact Nat.le_of_ble_eq_true rfl), fun p hp => hnx _ _ ?_⟩⟩⟩⟩⟩⟩⟩⟩⟩⟩⟩⟩
      all_goals
        obtain ⟨B1, t1⟩ := A.lit (xs := [.str (Str.ofString "X")]) h1 (by decide) (by decide +kernel) (by decide +kernel)
        obtain ⟨B2, t2⟩ := B1.lit (xs := [.str (Str.ofString "x ")]) h2 (by decide) (by decide +kernel) (by decide +kernel)
        obtain ⟨B3, t3⟩ := B2.lit (xs := [.str (Str.ofString "o")]) h3 (by decide) (by decide +kernel) (by decide +kernel)
        obtain ⟨B4, t4⟩ := B3.lit (xs := [.str (Str.ofString "x"), .str (Str.ofString "xx")]) h4 (by decide) (by decide +kernel) (by decide +kernel)
        obtain ⟨B5, t5⟩ := B4.lit (xs := [.str (Str.ofString "--"), .str (Str.ofString "-")]) h5 (by decide) (by decide +kernel) (by decide +kernel)
        obtain ⟨B6, t6⟩ := B5.lit (xs := [.str (Str.ofString "-"), .str (Str.ofString "")]) h6 (by decide) (by decide +kernel) (by decide +kernel)
        obtain ⟨B7, t7⟩ := B6.lit (xs := [.str (Str.ofString ""), .str (Str.ofString "-")]) h7 (by decide) (by decide +kernel) (by decide +kernel)
        obtain ⟨B8, t8⟩ := B7.lit (xs := [.str (Str.ofString "x\n")]) h8 (by decide) (by decide +kernel) (by decide +kernel)
        obtain ⟨B9, t9⟩ := B8.lit (xs := [.str (Str.ofString "+")]) h9 (by decide) (by decide +kernel) (by decide +kernel)
        obtain ⟨B10, t10⟩ := B9.lit (xs := [.str (Str.ofString "x-"), .str (Str.ofString "x?")]) h10 (by decide) (by decide +kernel) (by decide +kernel)
        have tt := t1.trans (t2.trans (t3.trans (t4.trans (t5.trans (t6.trans (t7.trans (t8.trans (t9.trans (t10)))))))))
        have sM := tt.trans ((Same.refl _).upd (o := .lst [.ref p1, .ref p2, .ref p3, .ref p4, .ref p5, .ref p6, .ref p7, .ref p8, .ref p9, .ref p10]) hM)
      · exact sM _ _ eL
      · refine ⟨p, _, _, rfl, rfl, s1.trans sM, hp, by rw [List.length_append, xl]; rfl, fun x hx => ?_⟩
        have C := AllIn.same okT_mono B10 ((Same.refl _).upd (o := .lst [.ref p1, .ref p2, .ref p3, .ref p4, .ref p5, .ref p6, .ref p7, .ref p8, .ref p9, .ref p10]) hM)
        refine C x ?_
        rcases List.mem_append.mp hx with z | z
        · simp only [List.mem_append]
          exact .inl (.inl (.inl (.inl (.inl (.inl (.inl (.inl (.inl (.inl z)))))))))
        · simp only [List.mem_cons, List.mem_nil_iff, or_false] at z
          simp only [List.mem_append, List.mem_singleton]
          rcases z with z | z | z | z | z | z | z | z | z | z <;> simp [z]
    rintro σ2 H2 ⟨L2, Hb, ys, rfl, rfl, s2, n2, yl, A2⟩
    refine seq_cut (fun σ' H' => ∃ L2 Hb ys, σ' = [some (.int n), some (.ref L2)] ∧ H' = upd Hb L2 (.lst ys) ∧ Same H Hb ∧ Hb L2 = none ∧ ys.length = 22 ∧ AllIn (okT K) Hb ys) (fun nx' hnx => ?_) ?_
    · dsimp only [cxComp, cxOf, Cx.wish, tRet, tRetN, tSeq, tNext, tIfS, tDrop, tNot, tB, tTest, tAnd, tOr, tAndV, tOrV, tNotV, tIf, tCB, tCons, tNil, tVar, tC, tOp, tUn, tBM, tBM0, tCall, tLst, tTup, tAsg, tPar, tSl, tSl3, tNoPart, tPart, tChain, tComp, tCompS, iList, iRng1, iRng2, iEnum, iZip, rI, rI0, rU, rEq, rNe, rIxL, rIxT, rIxS, rIx, rSlL, rSlS, rCat, rEqL, rIsi, rAppend, rPop, rSetL, gSub, tDGet, tDIn, sDPut, tDisp, tPairs, iZipX, rIsiO, tFld, tMeth, tMake, sFld, tOrO, iEnumT, tDNewK, Cx.may, tRaise, tCallV, tTry, rRepT, rRep]
      obtain ⟨m1, m2, m3⟩ := mul5 n
      refine ⟨_, rfl, .inl ⟨rfl, _, .of upd_same⟩, _, rfl, _, _, rfl, rfl, (show (0 : Int) < 5 by decide), _, _, rfl, rfl, _, _, rfl, rfl, ⟨by omega, by omega, by decide⟩, _, _, rfl, rfl, le100 m1, two_le, fun p hp => ?_⟩
      have np : p ≠ L2 := fun z => by rw [z, upd_same] at hp; cases hp
      have hbp : Hb p = none := by rw [upd_ne np] at hp; exact hp
      refine ⟨L2, ys, _, rfl, rfl, ?_, Nat.lt_of_lt_of_le (by rw [yl]; decide : ys.length < 100) (le100 (Nat.le_refl _)), hnx _ _ ⟨L2, _, ys ++ [.ref p], rfl, upd3 np, s2.upd hbp, ?_, ?_, (A2.lit hbp (Nat.le_of_ble_eq_true rfl) m2 m3).1⟩⟩
      · rw [upd_ne np.symm, upd_same]
      · rw [upd_ne np.symm]
        exact n2
      · rw [List.length_append, yl]
        rfl
    rintro σ3 H3 ⟨L3, Hc, zs, rfl, rfl, s3, n3, zl, A3⟩
    dsimp only [cxComp, cxOf, Cx.wish, tRet, tRetN, tSeq, tNext, tIfS, tDrop, tNot, tB, tTest, tAnd, tOr, tAndV, tOrV, tNotV, tIf, tCB, tCons, tNil, tVar, tC, tOp, tUn, tBM, tBM0, tCall, tLst, tTup, tAsg, tPar, tSl, tSl3, tNoPart, tPart, tChain, tComp, tCompS, iList, iRng1, iRng2, iEnum, iZip, rI, rI0, rU, rEq, rNe, rIxL, rIxT, rIxS, rIx, rSlL, rSlS, rCat, rEqL, rIsi, rAppend, rPop, rSetL, gSub, tDGet, tDIn, sDPut, tDisp, tPairs, iZipX, rIsiO, tFld, tMeth, tMake, sFld, tOrO, iEnumT, tDNewK, Cx.may, tRaise, tCallV, tTry, rRepT, rRep]
    obtain ⟨m1, m2, m3⟩ := rep4 n
    have m1' : (List.replicate (1 + n % 4).toNat [V.str (Str.ofString "x-x")]).flatten.length + 1 ≤ 100 := by rw [List.length_append] at m1; exact m1
    refine ⟨_, rfl, three_le, fun p1 h1 => ⟨one_le, fun p2 h2 => ⟨one_le, fun p3 h3 => ⟨one_le, fun p4 h4 => ⟨_, rfl, _, _, rfl, rfl, (show (0 : Int) < 4 by decide), _, _, rfl, rfl, p4, _, _, rfl, rfl, upd_same, by omega, by omega, ?_, fun p5 h5 => ⟨one_le, fun p6 h6 => ⟨p5, p6, _, _, rfl, rfl, ?_, upd_same, le100 m1', fun p7 h7 => ⟨three_le, fun p8 h8 => ⟨L3, p8, zs, _, rfl, rfl, ?_, upd_same, ?_, fun p9 h9 => ?_⟩⟩⟩⟩⟩⟩⟩⟩⟩
    · refine le100 ?_
      rw [List.length_singleton]
      omega
    · exact ((Same.refl _).upd h6) _ _ upd_same
    · exact ((((((((Same.refl _).upd h1).upd h2).upd h3).upd h4).upd h5).upd h6).upd h7).upd h8 _ _ upd_same
    · refine le100 ?_
      rw [zl]
      exact Nat.le_of_ble_eq_true rfl
    have t0 : Same Hc (upd Hc L3 (.lst zs)) := (Same.refl Hc).upd n3
    obtain ⟨B1, t1⟩ := (AllIn.same okT_mono A3 t0).lit (xs := [.str (Str.ofString "--"), .str (Str.ofString "--"), .bl true]) h1 (by decide) (by decide +kernel) (by decide +kernel)
    have t2 := (Same.refl _).upd (o := .tup [.str (Str.ofString "x")]) h2
    have t3 := (Same.refl _).upd (o := .lst [.ref p2]) h3
    have B2 := AllIn.push (x := .ref p3) okT_mono B1 (t2.trans t3) (in_lst upd_same (Nat.le_of_ble_eq_true rfl) (fun x hx => by
      rw [List.mem_singleton.mp hx]
      exact ⟨⟨"tuple", show KindV K (.ref p2) _ "tuple" from Or.inr (Or.inl ⟨rfl, _, .of (t3 _ _ upd_same)⟩)⟩, fun z e => nomatch e⟩) rfl)
    have t6 := (((Same.refl _).upd (o := .lst [.str (Str.ofString "x-x")]) h4).upd (o := .lst (List.replicate (1 + n % 4).toNat [V.str (Str.ofString "x-x")]).flatten) h5).upd (o := .lst [.str (Str.ofString "x-")]) h6
    obtain ⟨B3, t7⟩ := (AllIn.same okT_mono B2 t6).lit h7 m1 m2 m3
    have t8 := (Same.refl _).upd (o := .lst [.ref p1, .ref p3, .ref p7]) h8
    have sb := s3.trans (t0.trans (t1.trans (t2.trans (t3.trans (t6.trans (t7.trans t8))))))
    refine q p9 _ _ (sb.upd h9) (sb.free h9) upd_same (by rw [List.length_append, zl]; rfl) fun x hx => ?_
    refine AllIn.same okT_mono B3 (t8.upd h9) x ?_
    rcases List.mem_append.mp hx with z | z
    · exact List.mem_append.mpr (.inl (List.mem_append.mpr (.inl (List.mem_append.mpr (.inl z)))))
    · simp only [List.mem_cons, List.mem_nil_iff, or_false] at z
      simp only [List.mem_append, List.mem_singleton]
      rcases z with z | z | z <;> simp [z]
end
end Wa
namespace Wa
open PySem PySem.Spec PyProof.Rows L2
/-- a table that is not square -/
abbrev okW (K : PySem.W.Frag) : Hp → V → Prop := fun H x => ∃ a t w, x = .ref a ∧ Tb K H a t w ∧ t.length ≠ widT t
theorem okW_mono {K : PySem.W.Frag} : ∀ x H H', okW K H x → Same H H' → okW K H' x := fun _ _ _ ⟨a, t, w, e, tb, ne⟩ s => ⟨a, t, w, e, tb.same s, ne⟩
/-- no thing of two -/
abbrev okG (K : PySem.W.Frag) : Hp → V → Prop := fun H x => ThIn K H 2 x false
theorem okG_mono {K : PySem.W.Frag} : ∀ x H H', okG K H x → Same H H' → okG K H' x := fun _ _ _ h s => h.same s
section
variable {K : PySem.W.Frag} {H : Hp} {l : List V} {p : Addr} {xs : List V}
theorem AllIn.tab (A : AllIn (okW K) H l) (t : Tab) (w : Nat) (hp : H p = none) (e : xs = tabV t) (hw : Wid t w) (h1 : t.length ≤ 100) (h2 : w ≤ 100) (ne : t.length ≠ widT t) : AllIn (okW K) (upd H p (.lst xs)) (l ++ [.ref p]) ∧ Same H (upd H p (.lst xs)) :=
  have s : Same H (upd H p (.lst xs)) := (Same.refl H).upd hp
  ⟨AllIn.push okW_mono A s ⟨p, t, w, rfl, ⟨by rw [← e]; exact .of upd_same, hw, h1, h2⟩, ne⟩, s⟩
theorem AllIn.kd {x : V} {T : String} (A : AllIn (okG K) H l) (k : KindV K x H T) (e : T ≠ "int") : AllIn (okG K) H (l ++ [x]) := AllIn.push okG_mono A (Same.refl H) ⟨T, k, .inl ⟨e, rfl⟩⟩
theorem AllIn.nr {i : Int} (A : AllIn (okG K) H l) (e : i < 0 ∨ 2 ≤ i) : AllIn (okG K) H (l ++ [.int i]) := AllIn.push okG_mono A (Same.refl H) ⟨"int", rfl, .inr ⟨i, rfl, by
  unfold isT
  rcases e with e | e
  · rw [decide_eq_false (by omega), Bool.false_and]
  · rw [decide_eq_false (p := i < ((2 : Nat) : Int)) (by omega), Bool.and_false]⟩⟩
end
theorem wide7 (n : Int) : Txt.mul (Str.ofString "-") (2 + n % 7) = rowS (List.replicate (2 + n % 7).toNat false) := by
  have h : n % 7 = 0 ∨ n % 7 = 1 ∨ n % 7 = 2 ∨ n % 7 = 3 ∨ n % 7 = 4 ∨ n % 7 = 5 ∨ n % 7 = 6 := by omega
  rcases h with e | e | e | e | e | e | e <;> (rw [e]; decide +kernel)
theorem flat_rep {α : Type} (x : α) (k : Nat) : (List.replicate k [x]).flatten = List.replicate k x := by
  induction k with
  | zero => rfl
  | succ k ih => rw [List.replicate_succ, List.flatten_cons, ih, List.replicate_succ]; rfl
theorem wid_rep {r : List Bool} {k w : Nat} (h : r.length = w) : Wid (List.replicate k r) w := fun x hx => by rw [(List.mem_replicate.mp hx).2]; exact h
theorem widT_rep {r : List Bool} {k : Nat} (h : 0 < k) : widT (List.replicate k r) = r.length := by
  cases k with
  | zero => omega
  | succ k => rfl
section
variable {P : Program} {w : World} {K : PySem.W.Frag} {mg : Str → Option Value} {base : Heap}
theorem S__law_wides : FnScope ["_law_cell"] ["_law_cell"] (defScope (top 57)) := ⟨rfl, rfl, rfl, by decide +kernel, rfl, by decide +kernel, by decide +kernel⟩
set_option maxHeartbeats 4000000 in
theorem ok__law_wides {f : Addr} {fd : FuncData} (F : Fun K "_law_wides" "_law_wides" (top 57) f fd) (T : Nm mg) : FnOk P w K mg base CX0 1 f fd ["_law_cell"] (spSome 6 (okW K)) := by
  have S := S__law_wides
  refine F.ok S (fun vs H Q E h => ?_) (fun cdv A outer s H vs Q E hr h => ?_)
  · obtain ⟨n, rfl, _⟩ := h
    rfl
  · obtain ⟨n, rfl, hn, q⟩ := h
    refine ⟨?t, ?h, ?_⟩
    case h =>
      refine' pss_one ?p1
      case p1 =>
       refine' ps_ret ?p2
       case p2 =>
        refine' pe_lst ?p3
        case p3 =>
         refine' pa_consL ?p4 ?p5
         case p4 =>
          refine' pe_lst ?p6
          case p6 =>
           exact (pa_consK pe_str pa_nil)
         case p5 =>
          refine' pa_consL ?p7 ?p8
          case p7 =>
           refine' pe_lst ?p9
           case p9 =>
            refine' pa_consK pe_str ?p10
            case p10 =>
             exact (pa_consK pe_str pa_nil)
          case p8 =>
           refine' pa_consL ?p11 ?p12
           case p11 =>
            refine' pe_lst ?p13
            case p13 =>
             exact (pa_consK pe_str pa_nil)
           case p12 =>
            refine' pa_consL ?p14 ?p15
            case p14 =>
             refine' pe_lst ?p16
             case p16 =>
              refine' pa_consB ?p17 pa_nil
              case p17 =>
               refine' pe_op op_rep_str pe_str ?p18
               case p18 =>
                refine' pe_op op_add pe_int ?p19
                case p19 =>
                 exact (pe_op op_mod (pv 0) pe_int)
            case p15 =>
             refine' pa_consB ?p20 ?p21
             case p20 =>
              refine' pe_op op_rep ?p22 ?p23
              case p22 =>
               refine' pe_lst ?p24
               case p24 =>
                exact (pa_consK pe_str pa_nil)
              case p23 =>
               refine' pe_op op_add pe_int ?p25
               case p25 =>
                exact (pe_op op_mod (pv 0) pe_int)
             case p21 =>
              refine' pa_consB ?p26 pa_nil
              case p26 =>
               refine' pe_op op_rep ?p27 ?p28
               case p27 =>
                refine' pe_lst ?p29
                case p29 =>
                 exact (pa_consK pe_str pa_nil)
               case p28 =>
                refine' pe_op op_add pe_int ?p30
                case p30 =>
                 exact (pe_op op_mod (pv 0) pe_int)
    dsimp only [cxComp, cxOf, Cx.wish, tRet, tRetN, tSeq, tNext, tIfS, tDrop, tNot, tB, tTest, tAnd, tOr, tAndV, tOrV, tNotV, tIf, tCB, tCons, tNil, tVar, tC, tOp, tUn, tBM, tBM0, tCall, tLst, tTup, tAsg, tPar, tSl, tSl3, tNoPart, tPart, tChain, tComp, tCompS, iList, iRng1, iRng2, iEnum, iZip, rI, rI0, rU, rEq, rNe, rIxL, rIxT, rIxS, rIx, rSlL, rSlS, rCat, rEqL, rIsi, rAppend, rPop, rSetL, gSub, tDGet, tDIn, sDPut, tDisp, tPairs, iZipX, rIsiO, tFld, tMeth, tMake, sFld, tOrO, iEnumT, tDNewK, Cx.may, tRaise, tCallV, tTry, rRepT, rRep]
    have r1 : ([V.str (Str.ofString "-x-")].length * (1 + n % 2).toNat : Nat) ≤ 100 := by rw [List.length_singleton]; omega
    have r2 : ([V.str (Str.ofString "x")].length * (2 + n % 9).toNat : Nat) ≤ 100 := by rw [List.length_singleton]; omega
    refine ⟨one_le, fun p1 h1 => ⟨two_le, fun p2 h2 => ⟨one_le, fun p3 h3 => ⟨_, rfl, _, _, rfl, rfl, (show (0 : Int) < 7 by decide), _, _, rfl, rfl, _, _, rfl, rfl, ⟨by omega, by omega, by decide⟩, one_le, fun p4 h4 =>
      ⟨one_le, fun p5 h5 => ⟨_, rfl, _, _, rfl, rfl, (show (0 : Int) < 2 by decide), _, _, rfl, rfl, p5, _, _, rfl, rfl, upd_same, by omega, by omega, le100 r1, fun p6 h6 =>
      ⟨one_le, fun p7 h7 => ⟨_, rfl, _, _, rfl, rfl, (show (0 : Int) < 9 by decide), _, _, rfl, rfl, p7, _, _, rfl, rfl, upd_same, by omega, by omega, le100 r2, fun p8 h8 => ⟨le100 (Nat.le_of_ble_eq_true rfl), fun p9 h9 => ?_⟩⟩⟩⟩⟩⟩⟩⟩⟩
    have A0 : AllIn (okW K) H [] := .nil
    obtain ⟨A1, t1⟩ := A0.tab (xs := [.str (Str.ofString "xx")]) [[true, true]] 2 h1 (by decide +kernel) (show ∀ r ∈ [[true, true]], r.length = 2 by decide) (by decide) (by decide) (by decide)
    obtain ⟨A2, t2⟩ := A1.tab (xs := [.str (Str.ofString "x"), .str (Str.ofString "-")]) [[true], [false]] 1 h2 (by decide +kernel) (show ∀ r ∈ [[true], [false]], r.length = 1 by decide) (by decide) (by decide) (by decide)
    obtain ⟨A3, t3⟩ := A2.tab (xs := [.str (Str.ofString "")]) [[]] 0 h3 (by decide +kernel) (show ∀ r ∈ ([[]] : Tab), r.length = 0 by decide) (by decide) (by decide) (by decide)
    obtain ⟨A4, t4⟩ := A3.tab (xs := [.str (Txt.mul (Str.ofString "-") (2 + n % 7))]) [List.replicate (2 + n % 7).toNat false] (2 + n % 7).toNat h4 (by rw [wide7]; rfl) (by intro r hr; rw [List.mem_singleton.mp hr, List.length_replicate]) (Nat.le_of_ble_eq_true rfl) (by omega) (by rw [widT_cons, List.length_replicate, List.length_singleton]; omega)
    have t5 := (Same.refl _).upd (o := .lst [.str (Str.ofString "-x-")]) h5
    obtain ⟨A6, t6⟩ := (AllIn.same okW_mono A4 t5).tab (xs := (List.replicate (1 + n % 2).toNat [V.str (Str.ofString "-x-")]).flatten) (List.replicate (1 + n % 2).toNat [false, true, false]) 3 h6 (by rw [flat_rep]; unfold tabV; rw [List.map_replicate]; congr 1) (wid_rep rfl) (by rw [List.length_replicate]; omega) (by decide) (by rw [widT_rep (by omega), List.length_replicate]; show _ ≠ 3; omega)
    have t7 := (Same.refl _).upd (o := .lst [.str (Str.ofString "x")]) h7
    obtain ⟨A8, t8⟩ := (AllIn.same okW_mono A6 t7).tab (xs := (List.replicate (2 + n % 9).toNat [V.str (Str.ofString "x")]).flatten) (List.replicate (2 + n % 9).toNat [true]) 1 h8 (by rw [flat_rep]; unfold tabV; rw [List.map_replicate]; congr 1) (wid_rep rfl) (by rw [List.length_replicate]; omega) (by decide) (by rw [widT_rep (by omega), List.length_replicate]; show _ ≠ 1; omega)
    have sb := t1.trans (t2.trans (t3.trans (t4.trans (t5.trans (t6.trans (t7.trans t8))))))
    exact q p9 _ _ (sb.upd h9) (sb.free h9) upd_same rfl (AllIn.same okW_mono A8 ((Same.refl _).upd h9))
theorem S__law_things : FnScope ["_law_cell"] ["_law_cell"] (defScope (top 58)) := ⟨rfl, rfl, rfl, by decide +kernel, rfl, by decide +kernel, by decide +kernel⟩
set_option maxHeartbeats 4000000 in
theorem ok__law_things {f : Addr} {fd : FuncData} (F : Fun K "_law_things" "_law_things" (top 58) f fd) (T : Nm mg) : FnOk P w K mg base CX0 1 f fd ["_law_cell"] (spSome 10 (okG K)) := by
  have S := S__law_things
  refine F.ok S (fun vs H Q E h => ?_) (fun cdv A outer s H vs Q E hr h => ?_)
  · obtain ⟨n, rfl, _⟩ := h
    rfl
  · obtain ⟨n, rfl, hn, q⟩ := h
    refine ⟨?t, ?h, ?_⟩
    case h =>
      refine' pss_one ?p31
      case p31 =>
       refine' ps_ret ?p32
       case p32 =>
        refine' pe_lst ?p33
        case p33 =>
         refine' pa_consK pe_non ?p34
         case p34 =>
          refine' pa_consU ?p35 ?p36
          case p35 =>
           exact (pe_un un_neg pe_int)
          case p36 =>
           refine' pa_consB ?p37 ?p38
           case p37 =>
            refine' pe_op op_sub ?p39 (pv 0)
            case p39 =>
             exact (pe_un un_neg pe_int)
           case p38 =>
            refine' pa_consK pe_int ?p40
            case p40 =>
             refine' pa_consB ?p41 ?p42
             case p41 =>
              exact (pe_op op_add pe_int (pv 0))
             case p42 =>
              refine' pa_consK pe_bl ?p43
              case p43 =>
               refine' pa_consK pe_str ?p44
               case p44 =>
                refine' pa_consL ?p45 ?p46
                case p45 =>
                 refine' pe_lst ?p47
                 case p47 =>
                  exact (pa_consK pe_int pa_nil)
                case p46 =>
                 refine' pa_consT ?p48 ?p49
                 case p48 =>
                  refine' pe_tup ?p50
                  case p50 =>
                   exact (pa_consK pe_int pa_nil)
                 case p49 =>
                  exact (pa_consD pe_dnewK pa_nil)
    dsimp only [cxComp, cxOf, Cx.wish, tRet, tRetN, tSeq, tNext, tIfS, tDrop, tNot, tB, tTest, tAnd, tOr, tAndV, tOrV, tNotV, tIf, tCB, tCons, tNil, tVar, tC, tOp, tUn, tBM, tBM0, tCall, tLst, tTup, tAsg, tPar, tSl, tSl3, tNoPart, tPart, tChain, tComp, tCompS, iList, iRng1, iRng2, iEnum, iZip, rI, rI0, rU, rEq, rNe, rIxL, rIxT, rIxS, rIx, rSlL, rSlS, rCat, rEqL, rIsi, rAppend, rPop, rSetL, gSub, tDGet, tDIn, sDPut, tDisp, tPairs, iZipX, rIsiO, tFld, tMeth, tMake, sFld, tOrO, iEnumT, tDNewK, Cx.may, tRaise, tCallV, tTry, rRepT, rRep]
    refine ⟨_, rfl, _, rfl, _, rfl, _, _, rfl, rfl, _, rfl, _, _, rfl, rfl, one_le, fun p1 h1 => ⟨one_le, fun p2 h2 p3 h3 => ⟨le100 (Nat.le_of_ble_eq_true rfl), fun p9 h9 => ?_⟩⟩⟩
    have A0 : AllIn (okG K) H [] := .nil
    have A1 := A0.kd (x := .non) rfl (by decide)
    have A3 := (A1.nr (i := -1) (by omega)).nr (i := -1 - n) (by omega)
    have A5 := (A3.nr (i := 2) (by omega)).nr (i := 2 + n) (by omega)
    have A7 := (A5.kd (x := .bl true) rfl (by decide)).kd (x := .str (Str.ofString "1")) rfl (by decide)
    have t1 := (Same.refl H).upd (o := .lst [.int 1]) h1
    have t2 := (Same.refl _).upd (o := .tup [.int 0]) h2
    have t3 := (Same.refl _).upd (o := .dK []) h3
    have A8 := AllIn.push (x := .ref p1) okG_mono A7 t1 ⟨"list", kind_list (.of upd_same), .inl ⟨by decide, rfl⟩⟩
    have A9 := AllIn.push (x := .ref p2) okG_mono A8 t2 ⟨"tuple", show KindV K (.ref p2) _ "tuple" from Or.inr (Or.inl ⟨rfl, _, .of upd_same⟩), .inl ⟨by decide, rfl⟩⟩
    have A10 := AllIn.push (x := .ref p3) okG_mono A9 t3 ⟨"dict", show KindV K (.ref p3) _ "dict" from Or.inr (Or.inr ⟨rfl, _, upd_same⟩), .inl ⟨by decide, rfl⟩⟩
    have sb := t1.trans (t2.trans t3)
    exact q p9 _ _ (sb.upd h9) (sb.free h9) upd_same rfl (AllIn.same okG_mono A10 ((Same.refl _).upd h9))
end
end Wa
namespace Wa
open PySem PySem.Spec PyProof.Rows L2
/-- doors, things and what is due -/
def Fam (P : Program) (w : World) (K : PySem.W.Frag) (mg : Str → Option Value) (base : Heap) (cE cT cS cG : Addr) (H : Hp) (x : V) : Prop := ∃ p D f ds m k c ok, x = .ref p ∧ SqT K H p [.ref D, .ref f, .int k] ∧ SqL K H D ((ds : List Int).map V.int) ∧ 0 < ds.length ∧ ds.length ≤ 6 ∧ 0 < m ∧ m ≤ 25 ∧
  CalC CX0 P w K mg base 7 f (spSome m ok) ∧ (∀ x H H', ok H x → Same H H' → ok H' x) ∧ (∀ H d y, d ∈ ds → ok H y → Refu K H cT cS cG d y c) ∧ Kc K cE cT cS cG k c
theorem Fam.same {P : Program} {w : World} {K : PySem.W.Frag} {mg : Str → Option Value} {base : Heap} {cE cT cS cG : Addr} {H H' : Hp} {x : V} (h : Fam P w K mg base cE cT cS cG H x) (s : Same H H') : Fam P w K mg base cE cT cS cG H' x := by
  obtain ⟨p, D, f, ds, m, k, c, ok, e, h1, h2, r⟩ := h
  exact ⟨p, D, f, ds, m, k, c, ok, e, s.tup h1, s.seq h2, r⟩
def spLaw (K : PySem.W.Frag) : Sp := fun vs H Q _ => ∃ (a : Addr) (ns : List Int), vs = [.ref a] ∧ SqL K H a (ns.map V.int) ∧ ns.length ≤ 63 ∧ ∀ H', Q (.bl true) H'
theorem at_mod {xs : List V} (z : Int) (h0 : 0 < xs.length) : ∃ y, y ∈ xs ∧ atI xs (z % (xs.length : Int)) = some y := by
  have h1 := Int.emod_nonneg z (show ((xs.length : Nat) : Int) ≠ 0 by omega)
  have h2 := Int.emod_lt_of_pos z (show (0 : Int) < (xs.length : Int) by omega)
  obtain ⟨j, hj⟩ : ∃ j : Nat, z % (xs.length : Int) = (j : Int) := ⟨(z % (xs.length : Int)).toNat, by omega⟩
  have hl : j < xs.length := by omega
  rw [hj]
  exact ⟨xs[j], List.getElem_mem hl, atI_nat (List.getElem?_eq_getElem hl)⟩
section
variable {P : Program} {w : World} {K : PySem.W.Frag} {mg : Str → Option Value} {base : Heap} {cE cT cS cG : Addr}
theorem S_law : FnScope ["_law_script", "_law_doors", "_law_things_here", "_law_due_here", "_law_door", "_law_cell", "_law_some"] ["_law_script"] (defScope (top 59)) := ⟨rfl, rfl, rfl, by decide +kernel, rfl, by decide +kernel, by decide +kernel⟩
set_option maxHeartbeats 8000000 in
theorem ok_law {f f1 f2 f3 : Addr} {fd : FuncData} (F : Fun K "law" "law" (top 59) f fd) (T : Nm mg) (m_law_tables : mg "_law_tables" = some (.ref f1)) (m_law_wides : mg "_law_wides" = some (.ref f2)) (m_law_things : mg "_law_things" = some (.ref f3))
    (k1 : CalC CX0 P w K mg base 7 f1 (spSome 25 (okT K))) (k2 : CalC CX0 P w K mg base 7 f2 (spSome 6 (okW K))) (k3 : CalC CX0 P w K mg base 7 f3 (spSome 10 (okG K))) (q1 : Kc K cE cT cS cG 0 cT) (q2 : Kc K cE cT cS cG 1 cS) (q3 : Kc K cE cT cS cG 2 cG)
    (c_law_due : DefC P w K mg base 7 "_law_due" ["_law_door", "_law_thing", "_law_due_here"] (spDue K cE cT cS cG)) (c_ahead_of : DefX P w K mg base 5 "ahead_of" ["table", "thing"] (spAheadX K cT cS cG)) (c_turned : DefX P w K mg base 4 "turned" ["table"] (spTurnedX K cT)) :
    FnOk P w K mg base CX0 8 f fd ["_law_script"] (spLaw K) := by
  have S := S_law
  refine F.ok S (fun vs H Q E h => ?_) (fun cdv A outer s H vs Q E hr h => ?_)
  · obtain ⟨a, ns, rfl, _⟩ := h
    rfl
  · obtain ⟨a, ns, rfl, hS, hl, q⟩ := h
    refine ⟨?t, ?h, ?_⟩
    case h =>
      refine' pss_cons ?p1 ?p2
      case p1 =>
       refine' ps_for PassesOwn.never rfl (pi_list (pe_lst (pa_consT (pe_tup (pa_cons (pe_callTy (call_list_rng rfl) (by rfl) T.n_list bt_list (pa_cons (pe_callTy call_range1v (by rfl) T.n_range bt_range (pa_consK pe_int pa_nil)) pa_nil)) (pa_consN (pe_glob (v := .ref _) (by rfl) m_law_tables rfl) (pa_consK pe_int pa_nil)))) (pa_consT (pe_tup (pa_consL (pe_lst (pa_consK pe_int (pa_consK pe_int (pa_consK pe_int (pa_consK pe_int pa_nil))))) (pa_consN (pe_glob (v := .ref _) (by rfl) m_law_wides rfl) (pa_consK pe_int pa_nil)))) (pa_consT (pe_tup (pa_consL (pe_lst (pa_consK pe_int pa_nil)) (pa_consN (pe_glob (v := .ref _) (by rfl) m_law_things rfl) (pa_consK pe_int pa_nil)))) pa_nil))))) (pg_tup (n := 3) rfl (pgs_cons (pg_name (i := 1) S.nd rfl (by first | exact Or.inl rfl | exact Or.inr rfl)) (pgs_cons (pg_name (i := 2) S.nd rfl (by first | exact Or.inl rfl | exact Or.inr rfl)) (pgs_cons (pg_name (i := 3) S.nd rfl (by first | exact Or.inl rfl | exact Or.inr rfl)) pgs_nil)))) ?p3
       case p3 =>
        refine' pss_cons ?p4 ?p5
        case p4 =>
         refine' ps_for PassesOwn.never rfl (pi_list (pv 1)) (pg_name (i := 4) S.nd rfl (by first | exact Or.inl rfl | exact Or.inr rfl)) ?p6
         case p6 =>
          refine' pss_one ?p7
          case p7 =>
           refine' ps_if ?p8 ?p9 pss_nil
           case p8 =>
            refine' pt_not ?p10
            case p10 =>
             refine' pt_val ?p11
             case p11 =>
              refine' pe_callB (call_all rfl) (by rfl) T.n_all bt_all ?p12
              case p12 =>
               refine' pa_cons ?p13 pa_nil
               case p13 =>
                exact (pe_comp (N := ["_law_thing", "_law_door", "_law_due_here"]) (lift := [none, some 4, some 3]) (.of (by kernel_rfl)) (pi_list (pe_callV hr pass0 (pv 2) (pa_cons (pe_callB call_len_seq (by rfl) T.n_len bt_len (pa_consN (pv 0) pa_nil)) pa_nil))) (fun b => (pg_name (i := 0) (show (["_law_thing", "_law_door", "_law_due_here"] : List Str).Nodup from by decide +kernel) rfl (by first | exact Or.inl rfl | exact Or.inr rfl))) (fun b => pifs_nil) (fun b => (pe_callC c_law_due hr (by rfl) (pa_consN (pv 1) (pa_consN (pv 0) (pa_consN (pv 2) pa_nil))))))
           case p9 =>
            refine' pss_one ?p14
            case p14 =>
             exact (ps_ret pe_bl)
        case p5 =>
         refine' pss_one ?p15
         case p15 =>
          refine' ps_for PassesOwn.never rfl (pi_list (pv 0)) (pg_name (i := 5) S.nd rfl (by first | exact Or.inl rfl | exact Or.inr rfl)) ?p16
          case p16 =>
           refine' pss_cons ?p17 ?p18
           case p17 =>
            refine' ps_set (i := 6) S.nd rfl (by first | exact Or.inl rfl | exact Or.inr rfl) ?p19
            case p19 =>
             refine' pe_callV hr pass0 (pv 2) ?p20
             case p20 =>
              refine' pa_consB ?p21 pa_nil
              case p21 =>
               refine' pe_op op_mod (pv 5) ?p22
               case p22 =>
                exact (pe_op op_pow pe_int pe_int)
           case p18 =>
            refine' pss_one ?p23
            case p23 =>
             refine' ps_if ?p24 ?p25 pss_nil
             case p24 =>
              refine' pt_not ?p26
              case p26 =>
               refine' pt_val ?p27
               case p27 =>
                refine' pe_callC c_law_due hr (by rfl) ?p28
                case p28 =>
                 refine' pa_cons ?p29 ?p30
                 case p29 =>
                  refine' pe_ix ix_list (pv 1) ?p31 (fun _ _ => rfl)
                  case p31 =>
                   refine' pe_op op_mod (pv 5) ?p32
                   case p32 =>
                    refine' pe_callB call_len_seq (by rfl) T.n_len bt_len ?p33
                    case p33 =>
                     exact (pa_consN (pv 1) pa_nil)
                 case p30 =>
                  refine' pa_cons ?p34 ?p35
                  case p34 =>
                   refine' pe_ix ix_list (pv 6) ?p36 (fun _ _ => rfl)
                   case p36 =>
                    refine' pe_op op_mod ?p37 ?p38
                    case p37 =>
                     refine' pe_op op_fdiv (pv 5) ?p39
                     case p39 =>
                      refine' pe_callB call_len_seq (by rfl) T.n_len bt_len ?p40
                      case p40 =>
                       exact (pa_consN (pv 1) pa_nil)
                    case p38 =>
                     refine' pe_callB call_len_seq (by rfl) T.n_len bt_len ?p41
                     case p41 =>
                      exact (pa_consN (pv 6) pa_nil)
                  case p35 =>
                   exact (pa_consN (pv 3) pa_nil)
             case p25 =>
              refine' pss_one ?p42
              case p42 =>
               exact (ps_ret pe_bl)
      case p2 =>
       refine' pss_cons ?p43 ?p44
       case p43 =>
        refine' ps_if ?p45 ?p46 pss_nil
        case p45 =>
         refine' pt_not ?p47
         case p47 =>
          refine' pt_val ?p48
          case p48 =>
           refine' pe_callC c_law_due hr (by rfl) ?p49
           case p49 =>
            refine' pa_consK pe_int ?p50
            case p50 =>
             refine' pa_consL ?p51 ?p52
             case p51 =>
              exact (pe_lst pa_nil)
             case p52 =>
              exact (pa_consK pe_int pa_nil)
        case p46 =>
         refine' pss_one ?p53
         case p53 =>
          exact (ps_ret pe_bl)
       case p44 =>
        refine' pss_one ?p54
        case p54 =>
         refine' ps_ret ?p55
         case p55 =>
          refine' pe_and ?p56 ?p57
          case p56 =>
           refine' pe_cmpR (op_eqL hr.units0) ?p58 ?p59 (nomark _)
           case p58 =>
            refine' pe_callXF c_ahead_of hr (by rfl) ?p60
            case p60 =>
             refine' pa_consL ?p61 ?p62
             case p61 =>
              refine' pe_lst ?p63
              case p63 =>
               refine' pa_consK pe_str ?p64
               case p64 =>
                exact (pa_consK pe_str pa_nil)
             case p62 =>
              exact (pa_consK pe_int pa_nil)
           case p59 =>
            refine' pe_lst ?p65
            case p65 =>
             exact (pa_consK pe_int pa_nil)
          case p57 =>
           refine' pe_and ?p66 ?p67
           case p66 =>
            refine' pe_cmpR (op_eqL hr.units0) ?p68 ?p69 (nomark _)
            case p68 =>
             refine' pe_callXF c_turned hr (by rfl) ?p70
             case p70 =>
              refine' pa_consL ?p71 pa_nil
              case p71 =>
               refine' pe_lst ?p72
               case p72 =>
                exact (pa_consK pe_str pa_nil)
            case p69 =>
             refine' pe_lst ?p73
             case p73 =>
              refine' pa_consK pe_str ?p74
              case p74 =>
               exact (pa_consK pe_str pa_nil)
           case p67 =>
            refine' pe_one ?p75
            case p75 =>
             refine' pe_cmpR (op_eqL hr.units0) ?p76 ?p77 (nomark _)
             case p76 =>
              refine' pe_callXF c_turned hr (by rfl) ?p78
              case p78 =>
               refine' pa_consL ?p79 pa_nil
               case p79 =>
                refine' pe_lst ?p80
                case p80 =>
                 exact (pa_consK pe_str pa_nil)
             case p77 =>
              exact (pe_lst pa_nil)
    refine seq_cut (fun σ' H' => ∃ v1 v2 v3 v4 v5 v6, σ' = [some (.ref a), v1, v2, v3, v4, v5, v6] ∧ Same H H') (fun nx' hnx => ?_) ?_
    · refine for_cut (fun J H1 => ∃ (L : Addr) (xs : List V), J = Itl K L ∧ H1 L = some (.lst xs) ∧ (∀ x ∈ xs, Fam P w K mg base cE cT cS cG H1 x) ∧ Same H H1) (fun R hR => ?_) ?_
      · dsimp only [cxComp, cxOf, Cx.wish, tRet, tRetN, tSeq, tNext, tIfS, tDrop, tNot, tB, tTest, tAnd, tOr, tAndV, tOrV, tNotV, tIf, tCB, tCons, tNil, tVar, tC, tOp, tUn, tBM, tBM0, tCall, tLst, tTup, tAsg, tPar, tSl, tSl3, tNoPart, tPart, tChain, tComp, tCompS, iList, iRng1, iRng2, iEnum, iZip, rI, rI0, rU, rEq, rNe, rIxL, rIxT, rIxS, rIx, rSlL, rSlS, rCat, rEqL, rIsi, rAppend, rPop, rSetL, gSub, tDGet, tDIn, sDPut, tDisp, tPairs, iZipX, rIsiO, tFld, tMeth, tMake, sFld, tOrO, iEnumT, tDNewK, Cx.may, tRaise, tCallV, tTry, rRepT, rRep]
        refine ⟨6, rfl, fun r h0 => ⟨r, 0, 6, 1, 6, rfl, upd_same, by decide +kernel, by decide +kernel, by decide, fun D1 g1 => ⟨three_le, fun p1 h1 => ⟨four_le, fun D2 g2 => ⟨three_le, fun p2 h2 => ⟨one_le, fun D3 g3 => ⟨three_le, fun p3 h3 => ⟨three_le, fun L hL => ⟨L, rfl, ⟨_, .of upd_same⟩, hR _ _ ⟨L, _, rfl, upd_same, fun x hx => ?_, ?_⟩⟩⟩⟩⟩⟩⟩⟩⟩⟩
        · simp only [List.mem_cons, List.mem_nil_iff, or_false] at hx
          rcases hx with rfl | rfl | rfl
          · refine ⟨p1, D1, f1, [0, 1, 2, 3, 4, 5], 25, 0, cT, okT K, rfl, .of (((((((Same.refl _).upd g2).upd h2).upd g3).upd h3).upd hL) _ _ upd_same), .of ((((((((Same.refl _).upd h1).upd g2).upd h2).upd g3).upd h3).upd hL) _ _ upd_same), by decide, by decide, by decide, by decide, k1, okT_mono, fun H d y hd ho => .inl ⟨?_, ?_, ho, rfl⟩, q1⟩ <;>
              (simp only [List.mem_cons, List.mem_nil_iff, or_false] at hd; omega)
          · refine ⟨p2, D2, f2, [2, 3, 4, 5], 6, 1, cS, okW K, rfl, .of (((((Same.refl _).upd g3).upd h3).upd hL) _ _ upd_same), .of ((((((Same.refl _).upd h2).upd g3).upd h3).upd hL) _ _ upd_same), by decide, by decide, by decide, by decide, k2, okW_mono, fun H d y hd ho => .inr (.inl ⟨?_, ?_, ho, rfl⟩), q2⟩ <;>
              (simp only [List.mem_cons, List.mem_nil_iff, or_false] at hd; omega)
          · refine ⟨p3, D3, f3, [6], 10, 2, cG, okG K, rfl, .of (((Same.refl _).upd hL) _ _ upd_same), .of ((((Same.refl _).upd h3).upd hL) _ _ upd_same), by decide, by decide, by decide, by decide, k3, okG_mono, fun H d y hd ho => .inr (.inr (.inl ⟨?_, ho, rfl⟩)), q3⟩
            simp only [List.mem_cons, List.mem_nil_iff, or_false] at hd
            omega
        · exact ((((((((Same.refl H).upd h0).upd g1).upd h1).upd g2).upd h2).upd g3).upd h3).upd hL
      · rintro J H1 ⟨L, xs, rfl, eL, fam, s1⟩
        refine for_listW (xs := xs) (fun i σ H' => ∃ v1 v2 v3 v4 v5 v6, σ = [some (.ref a), v1, v2, v3, v4, v5, v6] ∧ Same H1 H') ⟨none, none, none, none, none, none, rfl, Same.refl _⟩ (fun i σ H' _ ⟨_, _, _, _, _, _, _, s'⟩ => .of (s' L _ eL)) ?_ fun σ H' ⟨v1, v2, v3, v4, v5, v6, e, s'⟩ => hnx _ _ ⟨v1, v2, v3, v4, v5, v6, e, s1.trans s'⟩
        rintro i x σ H2 hx ⟨v1, v2, v3, v4, v5, v6, rfl, s2⟩
        obtain ⟨p, D, fk, ds, m, k, c, ok, rfl, hT, hD, d0, d6, m0, m25, cal, mono, rf, kc⟩ := (fam x (List.mem_of_getElem? hx)).same s2
        have hS2 := (s1.trans s2).seq hS
        refine ⟨p, _, rfl, hT, rfl, _, _, rfl, _, _, rfl, _, _, rfl, rfl, ?_⟩
        refine seq_cut (fun σ' H' => ∃ v4 v5 v6, σ' = [some (.ref a), some (.ref D), some (.ref fk), some (.int k), v4, v5, v6] ∧ Same H2 H') (fun nx' hnx => ?_) ?_
        · refine for_cut (fun J H3 => J = Itl K D ∧ Same H2 H3) (fun R hR => ?_) ?_
          · dsimp only [cxComp, cxOf, Cx.wish, tRet, tRetN, tSeq, tNext, tIfS, tDrop, tNot, tB, tTest, tAnd, tOr, tAndV, tOrV, tNotV, tIf, tCB, tCons, tNil, tVar, tC, tOp, tUn, tBM, tBM0, tCall, tLst, tTup, tAsg, tPar, tSl, tSl3, tNoPart, tPart, tChain, tComp, tCompS, iList, iRng1, iRng2, iEnum, iZip, rI, rI0, rU, rEq, rNe, rIxL, rIxT, rIxS, rIx, rSlL, rSlS, rCat, rEqL, rIsi, rAppend, rPop, rSetL, gSub, tDGet, tDIn, sDPut, tDisp, tPairs, iZipX, rIsiO, tFld, tMeth, tMake, sFld, tOrO, iEnumT, tDNewK, Cx.may, tRaise, tCallV, tTry, rRepT, rRep]
            exact ⟨_, rfl, D, rfl, ⟨_, hD⟩, hR _ _ ⟨rfl, Same.refl _⟩⟩
          · rintro J H3 ⟨rfl, s3⟩
            refine for_listW (xs := ds.map V.int) (fun i σ H' => ∃ v4 v5 v6, σ = [some (.ref a), some (.ref D), some (.ref fk), some (.int k), v4, v5, v6] ∧ Same H2 H') ⟨v4, v5, v6, rfl, s3⟩ (fun i σ H' _ ⟨_, _, _, _, s'⟩ => s'.seq hD) ?_ fun σ H' ⟨v4, v5, v6, e, s'⟩ => hnx _ _ ⟨v4, v5, v6, e, s'⟩
            rintro i x σ H4 hx ⟨v4, v5, v6, rfl, s4⟩
            obtain ⟨d, hd, rfl⟩ := List.mem_map.mp (List.mem_of_getElem? hx)
            dsimp only [gName]
            dsimp only [cxComp, cxOf, Cx.wish, tRet, tRetN, tSeq, tNext, tIfS, tDrop, tNot, tB, tTest, tAnd, tOr, tAndV, tOrV, tNotV, tIf, tCB, tCons, tNil, tVar, tC, tOp, tUn, tBM, tBM0, tCall, tLst, tTup, tAsg, tPar, tSl, tSl3, tNoPart, tPart, tChain, tComp, tCompS, iList, iRng1, iRng2, iEnum, iZip, rI, rI0, rU, rEq, rNe, rIxL, rIxT, rIxS, rIx, rSlL, rSlS, rCat, rEqL, rIsi, rAppend, rPop, rSetL, gSub, tDGet, tDIn, sDPut, tDisp, tPairs, iZipX, rIsiO, tFld, tMeth, tMake, sFld, tOrO, iEnumT, tDNewK, Cx.may, tRaise, tCallV, tTry, rRepT, rRep]
            refine ⟨_, rfl, fk, _, rfl, cal, _, rfl, a, _, rfl, .inl (s4.seq hS2), _, rfl, Int.natCast_nonneg _, fun E2 ys H5 s5 n5 e5 l5 oks => ⟨E2, rfl, ⟨_, .of e5⟩, comp_list (fun _ => some (.bl true)) (.of e5) (le100 (by omega)) (fun y hy => .map fun H6 kk s6 hk => ?_) fun D6 H6 s6 n6 e6 => ?_⟩⟩
            · exact ⟨_, rfl, _, rfl, _, rfl, d, y, k, c, rfl, rf _ d y hd (mono y _ _ (oks y hy) s6), kc, fun H7 s7 => hk H7 s7⟩
            rw [fm_some, List.map_const', show List.replicate ys.length (V.bl true) = (List.replicate ys.length true).map V.bl from by rw [List.map_replicate]] at e6
            exact ⟨D6, _, rfl, .of e6, _, rfl, iteFb (by simp) ⟨_, _, _, rfl, s4.trans (s5.trans s6)⟩⟩
        rintro σ3 H3 ⟨v4, v5, v6, rfl, s3⟩
        have hS3 := s3.seq hS2
        have hD3 := s3.seq hD
        refine for_cut (fun J H4 => J = Itl K a ∧ Same H3 H4) (fun R hR => ?_) ?_
        · dsimp only [cxComp, cxOf, Cx.wish, tRet, tRetN, tSeq, tNext, tIfS, tDrop, tNot, tB, tTest, tAnd, tOr, tAndV, tOrV, tNotV, tIf, tCB, tCons, tNil, tVar, tC, tOp, tUn, tBM, tBM0, tCall, tLst, tTup, tAsg, tPar, tSl, tSl3, tNoPart, tPart, tChain, tComp, tCompS, iList, iRng1, iRng2, iEnum, iZip, rI, rI0, rU, rEq, rNe, rIxL, rIxT, rIxS, rIx, rSlL, rSlS, rCat, rEqL, rIsi, rAppend, rPop, rSetL, gSub, tDGet, tDIn, sDPut, tDisp, tPairs, iZipX, rIsiO, tFld, tMeth, tMake, sFld, tOrO, iEnumT, tDNewK, Cx.may, tRaise, tCallV, tTry, rRepT, rRep]
          exact ⟨_, rfl, a, rfl, ⟨_, hS3⟩, hR _ _ ⟨rfl, Same.refl _⟩⟩
        · rintro J H4 ⟨rfl, s4⟩
          refine for_listW (xs := ns.map V.int) (fun i σ H' => ∃ v4 v5 v6, σ = [some (.ref a), some (.ref D), some (.ref fk), some (.int k), v4, v5, v6] ∧ Same H3 H') ⟨v4, v5, v6, rfl, s4⟩ (fun i σ H' _ ⟨_, _, _, _, s'⟩ => s'.seq hS3) ?_ fun σ H' ⟨v4, v5, v6, e, s'⟩ => ⟨_, _, _, _, _, _, e, s2.trans (s3.trans s')⟩
          rintro i x σ H5 hx ⟨v4, v5, v6, rfl, s5⟩
          obtain ⟨z, hz, rfl⟩ := List.mem_map.mp (List.mem_of_getElem? hx)
          dsimp only [gName]
          dsimp only [cxComp, cxOf, Cx.wish, tRet, tRetN, tSeq, tNext, tIfS, tDrop, tNot, tB, tTest, tAnd, tOr, tAndV, tOrV, tNotV, tIf, tCB, tCons, tNil, tVar, tC, tOp, tUn, tBM, tBM0, tCall, tLst, tTup, tAsg, tPar, tSl, tSl3, tNoPart, tPart, tChain, tComp, tCompS, iList, iRng1, iRng2, iEnum, iZip, rI, rI0, rU, rEq, rNe, rIxL, rIxT, rIxS, rIx, rSlL, rSlS, rCat, rEqL, rIsi, rAppend, rPop, rSetL, gSub, tDGet, tDIn, sDPut, tDisp, tPairs, iZipX, rIsiO, tFld, tMeth, tMake, sFld, tOrO, iEnumT, tDNewK, Cx.may, tRaise, tCallV, tTry, rRepT, rRep]
          refine ⟨_, rfl, fk, _, rfl, cal, _, rfl, _, _, rfl, rfl, ⟨by decide, by decide, by decide⟩, _, _, rfl, rfl, (by decide +kernel : (0 : Int) < 10 ^ (60 : Int).toNat), _, rfl, Int.emod_nonneg _ (by decide +kernel), fun E2 ys H6 s6 n6 e6 l6 oks => ?_⟩
          dsimp only [gName]
          dsimp only [cxComp, cxOf, Cx.wish, tRet, tRetN, tSeq, tNext, tIfS, tDrop, tNot, tB, tTest, tAnd, tOr, tAndV, tOrV, tNotV, tIf, tCB, tCons, tNil, tVar, tC, tOp, tUn, tBM, tBM0, tCall, tLst, tTup, tAsg, tPar, tSl, tSl3, tNoPart, tPart, tChain, tComp, tCompS, iList, iRng1, iRng2, iEnum, iZip, rI, rI0, rU, rEq, rNe, rIxL, rIxT, rIxS, rIx, rSlL, rSlS, rCat, rEqL, rIsi, rAppend, rPop, rSetL, gSub, tDGet, tDIn, sDPut, tDisp, tPairs, iZipX, rIsiO, tFld, tMeth, tMake, sFld, tOrO, iEnumT, tDNewK, Cx.may, tRaise, tCallV, tTry, rRepT, rRep]
          have hD6 := (s5.trans s6).seq hD3
          have dl : (ds.map V.int).length = ds.length := List.length_map ..
          obtain ⟨x1, hx1, at1⟩ := at_mod (xs := ds.map V.int) z (by rw [dl]; exact d0)
          obtain ⟨d, hd, rfl⟩ := List.mem_map.mp hx1
          obtain ⟨y, hy, at2⟩ := at_mod (xs := ys) (z / ((ds.map V.int).length : Int)) (by rw [l6]; exact m0)
          have p1 : (0 : Int) < ((ds.map V.int).length : Int) := by rw [dl]; omega
          have p2 : (0 : Int) < (ys.length : Int) := by rw [l6]; omega
          refine ⟨_, rfl, _, rfl, _, rfl, D, _, rfl, .inl hD6, _, _, rfl, rfl, p1, D, _, _, _, rfl, rfl, hD6, at1, _, rfl, _, rfl, _, rfl, D, _, rfl, .inl hD6, _, _, rfl, rfl, ⟨p1, by rw [dl]; omega⟩, _, rfl, E2, _, rfl, .inl (.of e6), _, _, rfl, rfl, p2, E2, _, _, _, rfl, rfl, .of e6, at2, _, rfl, d, y, k, c, rfl, rf _ d y hd (oks y hy), kc, fun H7 s7 => ⟨_, rfl, iteFb rfl ⟨_, _, _, rfl, s5.trans (s6.trans s7)⟩⟩⟩
    rintro σ1 H1 ⟨v1, v2, v3, v4, v5, v6, rfl, s1⟩
    dsimp only [cxComp, cxOf, Cx.wish, tRet, tRetN, tSeq, tNext, tIfS, tDrop, tNot, tB, tTest, tAnd, tOr, tAndV, tOrV, tNotV, tIf, tCB, tCons, tNil, tVar, tC, tOp, tUn, tBM, tBM0, tCall, tLst, tTup, tAsg, tPar, tSl, tSl3, tNoPart, tPart, tChain, tComp, tCompS, iList, iRng1, iRng2, iEnum, iZip, rI, rI0, rU, rEq, rNe, rIxL, rIxT, rIxS, rIx, rSlL, rSlS, rCat, rEqL, rIsi, rAppend, rPop, rSetL, gSub, tDGet, tDIn, sDPut, tDisp, tPairs, iZipX, rIsiO, tFld, tMeth, tMake, sFld, tOrO, iEnumT, tDNewK, Cx.may, tRaise, tCallV, tTry, rRepT, rRep]
    refine ⟨Nat.zero_le _, fun p hp => ⟨5, .ref p, 2, cG, rfl, .inr (.inr (.inr ⟨rfl, ⟨p, rfl, ⟨.of upd_same, (fun r hr' => nomatch hr'), by decide, by decide⟩⟩, rfl⟩)), q3, fun H2 s2 => ⟨_, rfl, iteFb rfl ⟨two_le, fun p2 h2 => ⟨_, _, rfl, .inr (.inr ⟨p2, _, rfl, tab2 upd_same, .inr ⟨1, rfl, by decide, fun D3 H3 s3 n3 e3 => ⟨one_le, fun p4 h4 => ⟨D3, p4, _, _, rfl, rfl, .of (((Same.refl _).upd h4) _ _ e3), .of upd_same, by decide, by decide, _, rfl, iteTb (by decide) ?_⟩⟩⟩⟩)⟩⟩⟩⟩⟩
    refine ⟨one_le, fun p5 h5 => ⟨_, rfl, .inr ⟨p5, [[true, false]], 2, rfl, ⟨.of upd_same, (show ∀ r ∈ [[true, false]], r.length = 2 by decide), by decide, by decide⟩, fun D5 H5 s5 n5 e5 => ⟨two_le, fun p6 h6 => ⟨D5, p6, _, _, rfl, rfl, .of (((Same.refl _).upd h6) _ _ e5), .of upd_same, by decide, by decide, _, rfl, iteTb (by decide +kernel) ?_⟩⟩⟩⟩⟩
    exact ⟨one_le, fun p7 h7 => ⟨_, rfl, .inr ⟨p7, [[]], 0, rfl, ⟨.of upd_same, (show ∀ r ∈ ([[]] : Tab), r.length = 0 by decide), by decide, by decide⟩, fun D7 H7 s7 n7 e7 => ⟨Nat.zero_le _, fun p8 h8 => ⟨D7, p8, _, _, rfl, rfl, .of (((Same.refl _).upd h8) _ _ e7), .of upd_same, by decide, by decide, q _⟩⟩⟩⟩⟩
end
end Wa
namespace Wa
open PySem PySem.Spec PyProof.Rows L2
theorem all_mk {l : PySem.W.OpenLaw} {w : World} {K : PySem.W.Frag} {h : Heap} {mg : Str → Option Value} {fa : Addr} (X : K.In h) (G : h.Ns mainGlobals mg) (hfa : mg "law" = some (.ref fa))
    {cE cT cS cG : Addr}
    (gE : PySem.W.nsIn K mainGlobals "TableError" = some (some (.ref cE)))
    (gT : PySem.W.nsIn K mainGlobals "BadTable" = some (some (.ref cT)))
    (gS : PySem.W.nsIn K mainGlobals "BadSquare" = some (some (.ref cS)))
    (gG : PySem.W.nsIn K mainGlobals "BadThing" = some (some (.ref cG)))
    (hD : PySem.W.subIn K (.ref cE) (.type "BaseException") = some true)
    (hD2 : (PySem.W.clsIn K cE).isSome = true)
    (hD3 : PySem.W.typeIn K (.ref cE) = some (.type "type"))
    (xT : PySem.W.excIn K cT exM exN = true)
    (gaT : PySem.W.findIn K (.ref cT) "__getattribute__" = some (some (.builtin "BaseException.__getattribute__")))
    (gtT : PySem.W.findIn K (.ref cT) "__getattr__" = some none)
    (clT : PySem.W.findObj K cT none "__class__" = some (.bind (.builtin "getset_descriptor.__get__") (.builtin "object.__class__")))
    (hmT : PySem.W.mroIn K cT (.type "object") = some true)
    (hbT : PySem.W.subIn K (.ref cT) (.type "BaseException") = some true)
    (itT : (PySem.W.clsIn K cT).isSome = true)
    (upT : PySem.W.subIn K (.ref cT) (.ref cE) = some true)
    (oTT : PySem.W.kitOne K (.ref cT) (.ref cT) = some true)
    (oTS : PySem.W.kitOne K (.ref cT) (.ref cS) = some false)
    (oTG : PySem.W.kitOne K (.ref cT) (.ref cG) = some false)
    (ovT : PySem.W.kitOne K (.ref cT) (.type "ValueError") = some true)
    (xS : PySem.W.excIn K cS exM exN = true)
    (gaS : PySem.W.findIn K (.ref cS) "__getattribute__" = some (some (.builtin "BaseException.__getattribute__")))
    (gtS : PySem.W.findIn K (.ref cS) "__getattr__" = some none)
    (clS : PySem.W.findObj K cS none "__class__" = some (.bind (.builtin "getset_descriptor.__get__") (.builtin "object.__class__")))
    (hmS : PySem.W.mroIn K cS (.type "object") = some true)
    (hbS : PySem.W.subIn K (.ref cS) (.type "BaseException") = some true)
    (itS : (PySem.W.clsIn K cS).isSome = true)
    (upS : PySem.W.subIn K (.ref cS) (.ref cE) = some true)
    (oST : PySem.W.kitOne K (.ref cS) (.ref cT) = some false)
    (oSS : PySem.W.kitOne K (.ref cS) (.ref cS) = some true)
    (oSG : PySem.W.kitOne K (.ref cS) (.ref cG) = some false)
    (ovS : PySem.W.kitOne K (.ref cS) (.type "ValueError") = some true)
    (xG : PySem.W.excIn K cG exM exN = true)
    (gaG : PySem.W.findIn K (.ref cG) "__getattribute__" = some (some (.builtin "BaseException.__getattribute__")))
    (gtG : PySem.W.findIn K (.ref cG) "__getattr__" = some none)
    (clG : PySem.W.findObj K cG none "__class__" = some (.bind (.builtin "getset_descriptor.__get__") (.builtin "object.__class__")))
    (hmG : PySem.W.mroIn K cG (.type "object") = some true)
    (hbG : PySem.W.subIn K (.ref cG) (.type "BaseException") = some true)
    (itG : (PySem.W.clsIn K cG).isSome = true)
    (upG : PySem.W.subIn K (.ref cG) (.ref cE) = some true)
    (oGT : PySem.W.kitOne K (.ref cG) (.ref cT) = some false)
    (oGS : PySem.W.kitOne K (.ref cG) (.ref cS) = some false)
    (oGG : PySem.W.kitOne K (.ref cG) (.ref cG) = some true)
    (ovG : PySem.W.kitOne K (.ref cG) (.type "ValueError") = some true)
    {f1 : Addr} {od1 an1 : Option Addr} {sl1 : Array (Option Value)} {oc1 kV1 dc1 pm1 cd1 ct1 : Value}
    (a1 : PySem.W.nsIn K mainGlobals "is_row" = some (some (.ref f1)))
    (l1 : K.lookup f1 = some ⟨oc1, od1, .func (PySem.W.fnOf "is_row" "is_row" (defArgs (top 7)) (defBody (top 7)) (defScope (top 7)) .none kV1 dc1 pm1 an1 cd1 ct1), sl1⟩)
    (c1 : PySem.W.codeIn K cd1 "is_row" = true)
    (k1 : PySem.W.keepIn K (.ref f1) = true)
    {f2 : Addr} {od2 an2 : Option Addr} {sl2 : Array (Option Value)} {oc2 kV2 dc2 pm2 cd2 ct2 : Value}
    (a2 : PySem.W.nsIn K mainGlobals "is_table" = some (some (.ref f2)))
    (l2 : K.lookup f2 = some ⟨oc2, od2, .func (PySem.W.fnOf "is_table" "is_table" (defArgs (top 8)) (defBody (top 8)) (defScope (top 8)) .none kV2 dc2 pm2 an2 cd2 ct2), sl2⟩)
    (c2 : PySem.W.codeIn K cd2 "is_table" = true)
    (k2 : PySem.W.keepIn K (.ref f2) = true)
    {f3 : Addr} {od3 an3 : Option Addr} {sl3 : Array (Option Value)} {oc3 kV3 dc3 pm3 cd3 ct3 : Value}
    (a3 : PySem.W.nsIn K mainGlobals "width" = some (some (.ref f3)))
    (l3 : K.lookup f3 = some ⟨oc3, od3, .func (PySem.W.fnOf "width" "width" (defArgs (top 9)) (defBody (top 9)) (defScope (top 9)) .none kV3 dc3 pm3 an3 cd3 ct3), sl3⟩)
    (c3 : PySem.W.codeIn K cd3 "width" = true)
    (k3 : PySem.W.keepIn K (.ref f3) = true)
    {f4 : Addr} {od4 an4 : Option Addr} {sl4 : Array (Option Value)} {oc4 kV4 dc4 pm4 cd4 ct4 : Value}
    (a4 : PySem.W.nsIn K mainGlobals "is_number" = some (some (.ref f4)))
    (l4 : K.lookup f4 = some ⟨oc4, od4, .func (PySem.W.fnOf "is_number" "is_number" (defArgs (top 10)) (defBody (top 10)) (defScope (top 10)) .none kV4 dc4 pm4 an4 cd4 ct4), sl4⟩)
    (c4 : PySem.W.codeIn K cd4 "is_number" = true)
    (k4 : PySem.W.keepIn K (.ref f4) = true)
    {f5 : Addr} {od5 an5 : Option Addr} {sl5 : Array (Option Value)} {oc5 kV5 dc5 pm5 cd5 ct5 : Value}
    (a5 : PySem.W.nsIn K mainGlobals "is_row_count" = some (some (.ref f5)))
    (l5 : K.lookup f5 = some ⟨oc5, od5, .func (PySem.W.fnOf "is_row_count" "is_row_count" (defArgs (top 11)) (defBody (top 11)) (defScope (top 11)) .none kV5 dc5 pm5 an5 cd5 ct5), sl5⟩)
    (c5 : PySem.W.codeIn K cd5 "is_row_count" = true)
    (k5 : PySem.W.keepIn K (.ref f5) = true)
    {f6 : Addr} {od6 an6 : Option Addr} {sl6 : Array (Option Value)} {oc6 kV6 dc6 pm6 cd6 ct6 : Value}
    (a6 : PySem.W.nsIn K mainGlobals "column_signs" = some (some (.ref f6)))
    (l6 : K.lookup f6 = some ⟨oc6, od6, .func (PySem.W.fnOf "column_signs" "column_signs" (defArgs (top 16)) (defBody (top 16)) (defScope (top 16)) .none kV6 dc6 pm6 an6 cd6 ct6), sl6⟩)
    (c6 : PySem.W.codeIn K cd6 "column_signs" = true)
    (k6 : PySem.W.keepIn K (.ref f6) = true)
    {f7 : Addr} {od7 an7 : Option Addr} {sl7 : Array (Option Value)} {oc7 kV7 dc7 pm7 cd7 ct7 : Value}
    (a7 : PySem.W.nsIn K mainGlobals "check_table" = some (some (.ref f7)))
    (l7 : K.lookup f7 = some ⟨oc7, od7, .func (PySem.W.fnOf "check_table" "check_table" (defArgs (top 13)) (defBody (top 13)) (defScope (top 13)) .none kV7 dc7 pm7 an7 cd7 ct7), sl7⟩)
    (c7 : PySem.W.codeIn K cd7 "check_table" = true)
    (k7 : PySem.W.keepIn K (.ref f7) = true)
    {f8 : Addr} {od8 an8 : Option Addr} {sl8 : Array (Option Value)} {oc8 kV8 dc8 pm8 cd8 ct8 : Value}
    (a8 : PySem.W.nsIn K mainGlobals "check_square" = some (some (.ref f8)))
    (l8 : K.lookup f8 = some ⟨oc8, od8, .func (PySem.W.fnOf "check_square" "check_square" (defArgs (top 14)) (defBody (top 14)) (defScope (top 14)) .none kV8 dc8 pm8 an8 cd8 ct8), sl8⟩)
    (c8 : PySem.W.codeIn K cd8 "check_square" = true)
    (k8 : PySem.W.keepIn K (.ref f8) = true)
    {f9 : Addr} {od9 an9 : Option Addr} {sl9 : Array (Option Value)} {oc9 kV9 dc9 pm9 cd9 ct9 : Value}
    (a9 : PySem.W.nsIn K mainGlobals "check_thing" = some (some (.ref f9)))
    (l9 : K.lookup f9 = some ⟨oc9, od9, .func (PySem.W.fnOf "check_thing" "check_thing" (defArgs (top 15)) (defBody (top 15)) (defScope (top 15)) .none kV9 dc9 pm9 an9 cd9 ct9), sl9⟩)
    (c9 : PySem.W.codeIn K cd9 "check_thing" = true)
    (k9 : PySem.W.keepIn K (.ref f9) = true)
    {f10 : Addr} {od10 an10 : Option Addr} {sl10 : Array (Option Value)} {oc10 kV10 dc10 pm10 cd10 ct10 : Value}
    (a10 : PySem.W.nsIn K mainGlobals "turned" = some (some (.ref f10)))
    (l10 : K.lookup f10 = some ⟨oc10, od10, .func (PySem.W.fnOf "turned" "turned" (defArgs (top 17)) (defBody (top 17)) (defScope (top 17)) .none kV10 dc10 pm10 an10 cd10 ct10), sl10⟩)
    (c10 : PySem.W.codeIn K cd10 "turned" = true)
    (k10 : PySem.W.keepIn K (.ref f10) = true)
    {f11 : Addr} {od11 an11 : Option Addr} {sl11 : Array (Option Value)} {oc11 kV11 dc11 pm11 cd11 ct11 : Value}
    (a11 : PySem.W.nsIn K mainGlobals "steps" = some (some (.ref f11)))
    (l11 : K.lookup f11 = some ⟨oc11, od11, .func (PySem.W.fnOf "steps" "steps" (defArgs (top 32)) (defBody (top 32)) (defScope (top 32)) .none kV11 dc11 pm11 an11 cd11 ct11), sl11⟩)
    (c11 : PySem.W.codeIn K cd11 "steps" = true)
    (k11 : PySem.W.keepIn K (.ref f11) = true)
    {f12 : Addr} {od12 an12 : Option Addr} {sl12 : Array (Option Value)} {oc12 kV12 dc12 pm12 cd12 ct12 : Value}
    (a12 : PySem.W.nsIn K mainGlobals "stretches" = some (some (.ref f12)))
    (l12 : K.lookup f12 = some ⟨oc12, od12, .func (PySem.W.fnOf "stretches" "stretches" (defArgs (top 33)) (defBody (top 33)) (defScope (top 33)) .none kV12 dc12 pm12 an12 cd12 ct12), sl12⟩)
    (c12 : PySem.W.codeIn K cd12 "stretches" = true)
    (k12 : PySem.W.keepIn K (.ref f12) = true)
    {f13 : Addr} {od13 an13 : Option Addr} {sl13 : Array (Option Value)} {oc13 kV13 dc13 pm13 cd13 ct13 : Value}
    (a13 : PySem.W.nsIn K mainGlobals "ranks" = some (some (.ref f13)))
    (l13 : K.lookup f13 = some ⟨oc13, od13, .func (PySem.W.fnOf "ranks" "ranks" (defArgs (top 34)) (defBody (top 34)) (defScope (top 34)) .none kV13 dc13 pm13 an13 cd13 ct13), sl13⟩)
    (c13 : PySem.W.codeIn K cd13 "ranks" = true)
    (k13 : PySem.W.keepIn K (.ref f13) = true)
    {f14 : Addr} {od14 an14 : Option Addr} {sl14 : Array (Option Value)} {oc14 kV14 dc14 pm14 cd14 ct14 : Value}
    (a14 : PySem.W.nsIn K mainGlobals "line" = some (some (.ref f14)))
    (l14 : K.lookup f14 = some ⟨oc14, od14, .func (PySem.W.fnOf "line" "line" (defArgs (top 35)) (defBody (top 35)) (defScope (top 35)) .none kV14 dc14 pm14 an14 cd14 ct14), sl14⟩)
    (c14 : PySem.W.codeIn K cd14 "line" = true)
    (k14 : PySem.W.keepIn K (.ref f14) = true)
    {f15 : Addr} {od15 an15 : Option Addr} {sl15 : Array (Option Value)} {oc15 kV15 dc15 pm15 cd15 ct15 : Value}
    (a15 : PySem.W.nsIn K mainGlobals "ahead_of" = some (some (.ref f15)))
    (l15 : K.lookup f15 = some ⟨oc15, od15, .func (PySem.W.fnOf "ahead_of" "ahead_of" (defArgs (top 18)) (defBody (top 18)) (defScope (top 18)) .none kV15 dc15 pm15 an15 cd15 ct15), sl15⟩)
    (c15 : PySem.W.codeIn K cd15 "ahead_of" = true)
    (k15 : PySem.W.keepIn K (.ref f15) = true)
    {f16 : Addr} {od16 an16 : Option Addr} {sl16 : Array (Option Value)} {oc16 kV16 dc16 pm16 cd16 ct16 : Value}
    (a16 : PySem.W.nsIn K mainGlobals "_law_ask" = some (some (.ref f16)))
    (l16 : K.lookup f16 = some ⟨oc16, od16, .func (PySem.W.fnOf "_law_ask" "_law_ask" (defArgs (top 54)) (defBody (top 54)) (defScope (top 54)) .none kV16 dc16 pm16 an16 cd16 ct16), sl16⟩)
    (c16 : PySem.W.codeIn K cd16 "_law_ask" = true)
    (k16 : PySem.W.keepIn K (.ref f16) = true)
    {f17 : Addr} {od17 an17 : Option Addr} {sl17 : Array (Option Value)} {oc17 kV17 dc17 pm17 cd17 ct17 : Value}
    (a17 : PySem.W.nsIn K mainGlobals "_law_due" = some (some (.ref f17)))
    (l17 : K.lookup f17 = some ⟨oc17, od17, .func (PySem.W.fnOf "_law_due" "_law_due" (defArgs (top 55)) (defBody (top 55)) (defScope (top 55)) .none kV17 dc17 pm17 an17 cd17 ct17), sl17⟩)
    (c17 : PySem.W.codeIn K cd17 "_law_due" = true)
    (k17 : PySem.W.keepIn K (.ref f17) = true)
    {f18 : Addr} {od18 an18 : Option Addr} {sl18 : Array (Option Value)} {oc18 kV18 dc18 pm18 cd18 ct18 : Value}
    (a18 : PySem.W.nsIn K mainGlobals "_law_tables" = some (some (.ref f18)))
    (l18 : K.lookup f18 = some ⟨oc18, od18, .func (PySem.W.fnOf "_law_tables" "_law_tables" (defArgs (top 56)) (defBody (top 56)) (defScope (top 56)) .none kV18 dc18 pm18 an18 cd18 ct18), sl18⟩)
    (c18 : PySem.W.codeIn K cd18 "_law_tables" = true)
    (k18 : PySem.W.keepIn K (.ref f18) = true)
    {f19 : Addr} {od19 an19 : Option Addr} {sl19 : Array (Option Value)} {oc19 kV19 dc19 pm19 cd19 ct19 : Value}
    (a19 : PySem.W.nsIn K mainGlobals "_law_wides" = some (some (.ref f19)))
    (l19 : K.lookup f19 = some ⟨oc19, od19, .func (PySem.W.fnOf "_law_wides" "_law_wides" (defArgs (top 57)) (defBody (top 57)) (defScope (top 57)) .none kV19 dc19 pm19 an19 cd19 ct19), sl19⟩)
    (c19 : PySem.W.codeIn K cd19 "_law_wides" = true)
    (k19 : PySem.W.keepIn K (.ref f19) = true)
    {f20 : Addr} {od20 an20 : Option Addr} {sl20 : Array (Option Value)} {oc20 kV20 dc20 pm20 cd20 ct20 : Value}
    (a20 : PySem.W.nsIn K mainGlobals "_law_things" = some (some (.ref f20)))
    (l20 : K.lookup f20 = some ⟨oc20, od20, .func (PySem.W.fnOf "_law_things" "_law_things" (defArgs (top 58)) (defBody (top 58)) (defScope (top 58)) .none kV20 dc20 pm20 an20 cd20 ct20), sl20⟩)
    (c20 : PySem.W.codeIn K cd20 "_law_things" = true)
    (k20 : PySem.W.keepIn K (.ref f20) = true)
    {f21 : Addr} {od21 an21 : Option Addr} {sl21 : Array (Option Value)} {oc21 kV21 dc21 pm21 cd21 ct21 : Value}
    (a21 : PySem.W.nsIn K mainGlobals "law" = some (some (.ref f21)))
    (l21 : K.lookup f21 = some ⟨oc21, od21, .func (PySem.W.fnOf "law" "law" (defArgs (top 59)) (defBody (top 59)) (defScope (top 59)) .none kV21 dc21 pm21 an21 cd21 ct21), sl21⟩)
    (c21 : PySem.W.codeIn K cd21 "law" = true)
    (k21 : PySem.W.keepIn K (.ref f21) = true)
    (z_ValueError : PySem.W.nsIn K mainGlobals "ValueError" = some none)
    (z_len : PySem.W.nsIn K mainGlobals "len" = some none)
    (z_sum : PySem.W.nsIn K mainGlobals "sum" = some none)
    (z_all : PySem.W.nsIn K mainGlobals "all" = some none)
    (z_any : PySem.W.nsIn K mainGlobals "any" = some none)
    (z_sorted : PySem.W.nsIn K mainGlobals "sorted" = some none)
    (z_isinstance : PySem.W.nsIn K mainGlobals "isinstance" = some none)
    (z_list : PySem.W.nsIn K mainGlobals "list" = some none)
    (z_str : PySem.W.nsIn K mainGlobals "str" = some none)
    (z_int : PySem.W.nsIn K mainGlobals "int" = some none)
    (z_bool : PySem.W.nsIn K mainGlobals "bool" = some none)
    (z_set : PySem.W.nsIn K mainGlobals "set" = some none)
    (z_range : PySem.W.nsIn K mainGlobals "range" = some none)
    (z_enumerate : PySem.W.nsIn K mainGlobals "enumerate" = some none)
    (z_zip : PySem.W.nsIn K mainGlobals "zip" = some none) :
    ∃ fd : FuncData, (∀ (s : Shared) (v : Value), BindsTo s fd ⟨[v], []⟩ [("_law_script", v)]) ∧ ∀ base : Heap, K.In base → base.Ns mainGlobals mg → FnOk l.prog w K mg base CX0 8 fa fd ["_law_script"] (spLaw K) := by
  have e := hfa.symm.trans (PySem.W.mg_of X G a21)
  cases e
  have T : Nm mg := ⟨PySem.W.mg_none_of X G z_len, PySem.W.mg_none_of X G z_sum, PySem.W.mg_none_of X G z_all, PySem.W.mg_none_of X G z_any, PySem.W.mg_none_of X G z_sorted, PySem.W.mg_none_of X G z_isinstance, PySem.W.mg_none_of X G z_list, PySem.W.mg_none_of X G z_str, PySem.W.mg_none_of X G z_int, PySem.W.mg_none_of X G z_bool, PySem.W.mg_none_of X G z_set, PySem.W.mg_none_of X G z_range, PySem.W.mg_none_of X G z_enumerate, PySem.W.mg_none_of X G z_zip⟩
  have n_ValueError := PySem.W.mg_none_of X G z_ValueError
  have m_TableError := PySem.W.mg_of X G gE
  have m_BadTable := PySem.W.mg_of X G gT
  have m_BadSquare := PySem.W.mg_of X G gS
  have m_BadThing := PySem.W.mg_of X G gG
  have q1 : Kc K cE cT cS cG 0 cT := ⟨⟨gaT, gtT, clT, hmT, hbT, itT⟩, upT, oTT, oTS, oTG, ovT⟩
  have q2 : Kc K cE cT cS cG 1 cS := ⟨⟨gaS, gtS, clS, hmS, hbS, itS⟩, upS, oST, oSS, oSG, ovS⟩
  have q3 : Kc K cE cT cS cG 2 cG := ⟨⟨gaG, gtG, clG, hmG, hbG, itG⟩, upG, oGT, oGS, oGG, ovG⟩
  have F1 := fun_mk (st := (top 7)) l1 c1 k1
  have b1 := F1.binds (ps := ["row"]) fun _ _ _ _ _ _ us hl => match us, hl with | [_], _ => rfl
  have m_is_row := PySem.W.mg_of X G a1
  have F2 := fun_mk (st := (top 8)) l2 c2 k2
  have b2 := F2.binds (ps := ["table"]) fun _ _ _ _ _ _ us hl => match us, hl with | [_], _ => rfl
  have m_is_table := PySem.W.mg_of X G a2
  have F3 := fun_mk (st := (top 9)) l3 c3 k3
  have b3 := F3.binds (ps := ["table"]) fun _ _ _ _ _ _ us hl => match us, hl with | [_], _ => rfl
  have m_width := PySem.W.mg_of X G a3
  have F4 := fun_mk (st := (top 10)) l4 c4 k4
  have b4 := F4.binds (ps := ["value"]) fun _ _ _ _ _ _ us hl => match us, hl with | [_], _ => rfl
  have m_is_number := PySem.W.mg_of X G a4
  have F5 := fun_mk (st := (top 11)) l5 c5 k5
  have b5 := F5.binds (ps := ["table", "value"]) fun _ _ _ _ _ _ us hl => match us, hl with | [_, _], _ => rfl
  have m_is_row_count := PySem.W.mg_of X G a5
  have F6 := fun_mk (st := (top 16)) l6 c6 k6
  have b6 := F6.binds (ps := ["table", "column"]) fun _ _ _ _ _ _ us hl => match us, hl with | [_, _], _ => rfl
  have m_column_signs := PySem.W.mg_of X G a6
  have F7 := fun_mk (st := (top 13)) l7 c7 k7
  have b7 := F7.binds (ps := ["table"]) fun _ _ _ _ _ _ us hl => match us, hl with | [_], _ => rfl
  have m_check_table := PySem.W.mg_of X G a7
  have F8 := fun_mk (st := (top 14)) l8 c8 k8
  have b8 := F8.binds (ps := ["table"]) fun _ _ _ _ _ _ us hl => match us, hl with | [_], _ => rfl
  have m_check_square := PySem.W.mg_of X G a8
  have F9 := fun_mk (st := (top 15)) l9 c9 k9
  have b9 := F9.binds (ps := ["table", "thing"]) fun _ _ _ _ _ _ us hl => match us, hl with | [_, _], _ => rfl
  have m_check_thing := PySem.W.mg_of X G a9
  have F10 := fun_mk (st := (top 17)) l10 c10 k10
  have b10 := F10.binds (ps := ["table"]) fun _ _ _ _ _ _ us hl => match us, hl with | [_], _ => rfl
  have m_turned := PySem.W.mg_of X G a10
  have F11 := fun_mk (st := (top 32)) l11 c11 k11
  have b11 := F11.binds (ps := ["table"]) fun _ _ _ _ _ _ us hl => match us, hl with | [_], _ => rfl
  have m_steps := PySem.W.mg_of X G a11
  have F12 := fun_mk (st := (top 33)) l12 c12 k12
  have b12 := F12.binds (ps := ["table"]) fun _ _ _ _ _ _ us hl => match us, hl with | [_], _ => rfl
  have m_stretches := PySem.W.mg_of X G a12
  have F13 := fun_mk (st := (top 34)) l13 c13 k13
  have b13 := F13.binds (ps := ["table"]) fun _ _ _ _ _ _ us hl => match us, hl with | [_], _ => rfl
  have m_ranks := PySem.W.mg_of X G a13
  have F14 := fun_mk (st := (top 35)) l14 c14 k14
  have b14 := F14.binds (ps := ["table"]) fun _ _ _ _ _ _ us hl => match us, hl with | [_], _ => rfl
  have m_line := PySem.W.mg_of X G a14
  have F15 := fun_mk (st := (top 18)) l15 c15 k15
  have b15 := F15.binds (ps := ["table", "thing"]) fun _ _ _ _ _ _ us hl => match us, hl with | [_, _], _ => rfl
  have m_ahead_of := PySem.W.mg_of X G a15
  have F16 := fun_mk (st := (top 54)) l16 c16 k16
  have b16 := F16.binds (ps := ["_law_door", "_law_thing"]) fun _ _ _ _ _ _ us hl => match us, hl with | [_, _], _ => rfl
  have m_law_ask := PySem.W.mg_of X G a16
  have F17 := fun_mk (st := (top 55)) l17 c17 k17
  have b17 := F17.binds (ps := ["_law_door", "_law_thing", "_law_due_here"]) fun _ _ _ _ _ _ us hl => match us, hl with | [_, _, _], _ => rfl
  have m_law_due := PySem.W.mg_of X G a17
  have F18 := fun_mk (st := (top 56)) l18 c18 k18
  have b18 := F18.binds (ps := ["_law_cell"]) fun _ _ _ _ _ _ us hl => match us, hl with | [_], _ => rfl
  have m_law_tables := PySem.W.mg_of X G a18
  have F19 := fun_mk (st := (top 57)) l19 c19 k19
  have b19 := F19.binds (ps := ["_law_cell"]) fun _ _ _ _ _ _ us hl => match us, hl with | [_], _ => rfl
  have m_law_wides := PySem.W.mg_of X G a19
  have F20 := fun_mk (st := (top 58)) l20 c20 k20
  have b20 := F20.binds (ps := ["_law_cell"]) fun _ _ _ _ _ _ us hl => match us, hl with | [_], _ => rfl
  have m_law_things := PySem.W.mg_of X G a20
  have F21 := fun_mk (st := (top 59)) l21 c21 k21
  refine ⟨PySem.W.fnOf "law" "law" (defArgs (top 59)) (defBody (top 59)) (defScope (top 59)) .none kV21 dc21 pm21 an21 cd21 ct21, fun s v => .of_eq rfl, fun base KB GB => ?_⟩
  have oT : OwnX "BadTable" cT mg base := own_in KB m_BadTable xT
  have oS : OwnX "BadSquare" cS mg base := own_in KB m_BadSquare xS
  have oG : OwnX "BadThing" cG mg base := own_in KB m_BadThing xG
  have ok1 : FnOk l.prog w K mg base CX0 1 f1 _ ["row"] (spIsRowG K) := ok_is_row_g F1 T
  have c_is_row : DefC l.prog w K mg base 1 "is_row" ["row"] (spIsRowG K) := ⟨_, _, ok1, m_is_row, k1, b1⟩
  have ok2 : FnOk l.prog w K mg base CX0 2 f2 _ ["table"] (spIsTableG K) := ok_is_table_g F2 T c_is_row
  have c_is_table : DefC l.prog w K mg base 2 "is_table" ["table"] (spIsTableG K) := ⟨_, _, ok2, m_is_table, k2, b2⟩
  have ok3 : FnOk l.prog w K mg base CX0 1 f3 _ ["table"] (spWidth K) := ok_width F3 T
  have c_width : DefC l.prog w K mg base 1 "width" ["table"] (spWidth K) := ⟨_, _, ok3, m_width, k3, b3⟩
  have ok4 : FnOk l.prog w K mg base CX0 1 f4 _ ["value"] (spIsNumG K) := ok_is_number_g F4 T
  have c_is_number : DefC l.prog w K mg base 1 "is_number" ["value"] (spIsNumG K) := ⟨_, _, ok4, m_is_number, k4, b4⟩
  have ok5 : FnOk l.prog w K mg base CX0 2 f5 _ ["table", "value"] (spIsRowCG K) := ok_is_row_count_g F5 T c_is_number
  have c_is_row_count : DefC l.prog w K mg base 2 "is_row_count" ["table", "value"] (spIsRowCG K) := ⟨_, _, ok5, m_is_row_count, k5, b5⟩
  have ok6 : FnOk l.prog w K mg base CX0 1 f6 _ ["table", "column"] (spColumn K) := ok_column_signs F6 T
  have c_column_signs : DefC l.prog w K mg base 1 "column_signs" ["table", "column"] (spColumn K) := ⟨_, _, ok6, m_column_signs, k6, b6⟩
  have ok7 : FnOk l.prog w K mg base (CX1 l.prog w) 3 f7 _ ["table"] (spCheckX K cT) := ok_check_table_x F7 T oT c_is_table
  have c_check_table : DefX l.prog w K mg base 3 "check_table" ["table"] (spCheckX K cT) := ⟨_, _, ok7, m_check_table, k7, b7⟩
  have ok8 : FnOk l.prog w K mg base (CX1 l.prog w) 4 f8 _ ["table"] (spSquareX K cT cS) := ok_check_square_x F8 T oS c_check_table c_width
  have c_check_square : DefX l.prog w K mg base 4 "check_square" ["table"] (spSquareX K cT cS) := ⟨_, _, ok8, m_check_square, k8, b8⟩
  have ok9 : FnOk l.prog w K mg base (CX1 l.prog w) 3 f9 _ ["table", "thing"] (spThingX K cG) := ok_check_thing_x F9 T oG c_is_row_count
  have c_check_thing : DefX l.prog w K mg base 3 "check_thing" ["table", "thing"] (spThingX K cG) := ⟨_, _, ok9, m_check_thing, k9, b9⟩
  have ok10 : FnOk l.prog w K mg base (CX1 l.prog w) 4 f10 _ ["table"] (spTurnedX K cT) := ok_turned_x F10 T c_check_table c_width c_column_signs
  have c_turned : DefX l.prog w K mg base 4 "turned" ["table"] (spTurnedX K cT) := ⟨_, _, ok10, m_turned, k10, b10⟩
  have v_turned : CalC (CX1 l.prog w) l.prog w K mg base 5 f10 (spTurnedX K cT) := ⟨_, _, _, ok10, by decide, k10, b10⟩
  have ok11 : FnOk l.prog w K mg base (CX1 l.prog w) 4 f11 _ ["table"] (spDoor1 K cT) := ok_steps_x F11 T c_check_table
  have c_steps : DefX l.prog w K mg base 4 "steps" ["table"] (spDoor1 K cT) := ⟨_, _, ok11, m_steps, k11, b11⟩
  have v_steps : CalC (CX1 l.prog w) l.prog w K mg base 5 f11 (spDoor1 K cT) := ⟨_, _, _, ok11, by decide, k11, b11⟩
  have ok12 : FnOk l.prog w K mg base (CX1 l.prog w) 5 f12 _ ["table"] (spDoor2 K cT cS) := ok_stretches_x F12 T c_check_square
  have c_stretches : DefX l.prog w K mg base 5 "stretches" ["table"] (spDoor2 K cT cS) := ⟨_, _, ok12, m_stretches, k12, b12⟩
  have v_stretches : CalC (CX1 l.prog w) l.prog w K mg base 5 f12 (spDoor2 K cT cS) := ⟨_, _, _, ok12, by decide, k12, b12⟩
  have ok13 : FnOk l.prog w K mg base (CX1 l.prog w) 5 f13 _ ["table"] (spDoor2 K cT cS) := ok_ranks_x F13 T c_check_square
  have c_ranks : DefX l.prog w K mg base 5 "ranks" ["table"] (spDoor2 K cT cS) := ⟨_, _, ok13, m_ranks, k13, b13⟩
  have v_ranks : CalC (CX1 l.prog w) l.prog w K mg base 5 f13 (spDoor2 K cT cS) := ⟨_, _, _, ok13, by decide, k13, b13⟩
  have ok14 : FnOk l.prog w K mg base (CX1 l.prog w) 5 f14 _ ["table"] (spDoor2 K cT cS) := ok_line_x F14 T c_check_square
  have c_line : DefX l.prog w K mg base 5 "line" ["table"] (spDoor2 K cT cS) := ⟨_, _, ok14, m_line, k14, b14⟩
  have v_line : CalC (CX1 l.prog w) l.prog w K mg base 5 f14 (spDoor2 K cT cS) := ⟨_, _, _, ok14, by decide, k14, b14⟩
  have ok15 : FnOk l.prog w K mg base (CX1 l.prog w) 5 f15 _ ["table", "thing"] (spAheadX K cT cS cG) := ok_ahead_of_x F15 T c_check_square c_check_thing
  have c_ahead_of : DefX l.prog w K mg base 5 "ahead_of" ["table", "thing"] (spAheadX K cT cS cG) := ⟨_, _, ok15, m_ahead_of, k15, b15⟩
  have ok16 : FnOk l.prog w K mg base (CX1 l.prog w) 6 f16 _ ["_law_door", "_law_thing"] (spAsk K cT cS cG) := ok__law_ask F16 T m_turned m_steps m_stretches m_ranks m_line v_turned v_steps v_stretches v_ranks v_line c_ahead_of
  have c_law_ask : DefX l.prog w K mg base 6 "_law_ask" ["_law_door", "_law_thing"] (spAsk K cT cS cG) := ⟨_, _, ok16, m_law_ask, k16, b16⟩
  have ok17 : FnOk l.prog w K mg base CX0 7 f17 _ ["_law_door", "_law_thing", "_law_due_here"] (spDue K cE cT cS cG) := ok__law_due F17 T n_ValueError m_TableError m_BadTable m_BadSquare m_BadThing hD hD2 hD3 c_law_ask
  have c_law_due : DefC l.prog w K mg base 7 "_law_due" ["_law_door", "_law_thing", "_law_due_here"] (spDue K cE cT cS cG) := ⟨_, _, ok17, m_law_due, k17, b17⟩
  have ok18 : FnOk l.prog w K mg base CX0 1 f18 _ ["_law_cell"] (spSome 25 (okT K)) := ok__law_tables F18 T
  have c_law_tables : DefC l.prog w K mg base 1 "_law_tables" ["_law_cell"] (spSome 25 (okT K)) := ⟨_, _, ok18, m_law_tables, k18, b18⟩
  have v_law_tables : CalC CX0 l.prog w K mg base 7 f18 (spSome 25 (okT K)) := ⟨_, _, _, ok18, by decide, k18, b18⟩
  have ok19 : FnOk l.prog w K mg base CX0 1 f19 _ ["_law_cell"] (spSome 6 (okW K)) := ok__law_wides F19 T
  have c_law_wides : DefC l.prog w K mg base 1 "_law_wides" ["_law_cell"] (spSome 6 (okW K)) := ⟨_, _, ok19, m_law_wides, k19, b19⟩
  have v_law_wides : CalC CX0 l.prog w K mg base 7 f19 (spSome 6 (okW K)) := ⟨_, _, _, ok19, by decide, k19, b19⟩
  have ok20 : FnOk l.prog w K mg base CX0 1 f20 _ ["_law_cell"] (spSome 10 (okG K)) := ok__law_things F20 T
  have c_law_things : DefC l.prog w K mg base 1 "_law_things" ["_law_cell"] (spSome 10 (okG K)) := ⟨_, _, ok20, m_law_things, k20, b20⟩
  have v_law_things : CalC CX0 l.prog w K mg base 7 f20 (spSome 10 (okG K)) := ⟨_, _, _, ok20, by decide, k20, b20⟩
  exact ok_law F21 T m_law_tables m_law_wides m_law_things v_law_tables v_law_wides v_law_things q1 q2 q3 c_law_due c_ahead_of c_turned
theorem walk {l : PySem.W.OpenLaw} {q : Program} {loose : List Str} {XP : (Str → Option Value) → Heap → Prop} {YP : World → Heap → Prop} {d : DefRec} {K : Params → PySem.W.Frag} (hn : l.most = some 63) (hdf : d.params.defaults = [])
    (hY : ∀ (w : World) (h : Heap), YP w h → (K w.params).In h)
    (F : ∀ (w : World) (mg : Str → Option Value) (fa : Addr) (h : Heap), (K w.params).In h → h.Ns mainGlobals mg → mg d.name = some (.ref fa) →
      ∃ fd : FuncData, (∀ (s : Shared) (u : Value), BindsTo s fd ⟨[u], []⟩ [("_law_script", u)]) ∧ ∀ base : Heap, (K w.params).In base → base.Ns mainGlobals mg → FnOk l.prog w (K w.params) mg base CX0 8 fa fd ["_law_script"] (spLaw (K w.params))) :
    PySem.W.WalkO q loose XP YP l.row.toRowW d [] (fun f vs => PySem.call f vs) :=
  L2.walk_of (n := 63) (k := 8) (x := "_law_script") (CX := fun _ => CX0) (sp := fun w => spLaw (K w.params)) hn (by decide) hdf ⟨rfl, by decide, by decide⟩ hY F (fun _ _ a ns hl _ hS => ⟨a, ns, rfl, hS, hl, fun _ => rfl⟩) fun _ _ _ _ _ z => z
end Wa
open PySem PySem.W PyProof.Rows
set_option maxRecDepth 100000 in
set_option maxHeartbeats 0 in
theorem PySem.Challenge.cw_wholeahead_k07_refused_holds : PySem.Challenge.rw_wholeahead_k07_refused.Holds := by
  w_on; o_law
  refine PySem.W.holds_open (q := Wa.view) (loose := []) (XP := PySem.W.XL Wa.view []) (YP := PySem.W.Hook.says (PySem.W.kmHook Wa.early.heap_1 Wa.ads Wa.ads_is [561, 481])) Wa.left (PySem.W.Hook.of (PySem.W.kmHook Wa.early.heap_1 Wa.ads Wa.ads_is [561, 481])) (PySem.W.Hook.keeps (PySem.W.kmHook Wa.early.heap_1 Wa.ads Wa.ads_is [561, 481])) (fun s e => PySem.W.xl_of s (Bool.and_eq_true_iff.mp e).1) PySem.W.XL.keeps (by rfl) (by rfl) (by rfl) (fun s e => PySem.W.recFacts_of (Bool.and_eq_true_iff.mp e).2) (by rfl) (by first | assumption | decide +kernel) (by decide +kernel) ⟨rfl, rfl, rfl, rfl, rfl, by decide +kernel⟩ ?_ ?_
  · w_witness2
  k_fill
  refine Wa.walk (l := PySem.Challenge.rw_wholeahead_k07_refused) rfl rfl (fun w h Y => PySem.W.km_in_of Y) ?F
  case F =>
    intro w mg fa h KX G hmg
    refine' Wa.all_mk KX G hmg ?gE ?gT ?gS ?gG ?hD ?hD2 ?hD3 ?xT ?gaT ?gtT ?clT ?hmT ?hbT ?itT ?upT ?oTT ?oTS ?oTG ?ovT ?xS ?gaS ?gtS ?clS ?hmS ?hbS ?itS ?upS ?oST ?oSS ?oSG ?ovS ?xG ?gaG ?gtG ?clG ?hmG ?hbG ?itG ?upG ?oGT ?oGS ?oGG ?ovG ?a1 ?l1 ?c1 ?k1 ?a2 ?l2 ?c2 ?k2 ?a3 ?l3 ?c3 ?k3 ?a4 ?l4 ?c4 ?k4 ?a5 ?l5 ?c5 ?k5 ?a6 ?l6 ?c6 ?k6 ?a7 ?l7 ?c7 ?k7 ?a8 ?l8 ?c8 ?k8 ?a9 ?l9 ?c9 ?k9 ?a10 ?l10 ?c10 ?k10 ?a11 ?l11 ?c11 ?k11 ?a12 ?l12 ?c12 ?k12 ?a13 ?l13 ?c13 ?k13 ?a14 ?l14 ?c14 ?k14 ?a15 ?l15 ?c15 ?k15 ?a16 ?l16 ?c16 ?k16 ?a17 ?l17 ?c17 ?k17 ?a18 ?l18 ?c18 ?k18 ?a19 ?l19 ?c19 ?k19 ?a20 ?l20 ?c20 ?k20 ?a21 ?l21 ?c21 ?k21 ?z_ValueError ?z_len ?z_sum ?z_all ?z_any ?z_sorted ?z_isinstance ?z_list ?z_str ?z_int ?z_bool ?z_set ?z_range ?z_enumerate ?z_zip
    (case gE => k_is)
    (case gT => k_is)
    (case gS => k_is)
    (case gG => k_is)
    (case hD => kernel_rfl)
    (case hD2 => kernel_rfl)
    (case hD3 => kernel_rfl)
    (case xT => kernel_rfl)
    (case gaT => kernel_rfl)
    (case gtT => kernel_rfl)
    (case clT => kernel_rfl)
    (case hmT => kernel_rfl)
    (case hbT => kernel_rfl)
    (case itT => kernel_rfl)
    (case upT => kernel_rfl)
    (case oTT => kernel_rfl)
    (case oTS => kernel_rfl)
    (case oTG => kernel_rfl)
    (case ovT => kernel_rfl)
    (case xS => kernel_rfl)
    (case gaS => kernel_rfl)
    (case gtS => kernel_rfl)
    (case clS => kernel_rfl)
    (case hmS => kernel_rfl)
    (case hbS => kernel_rfl)
    (case itS => kernel_rfl)
    (case upS => kernel_rfl)
    (case oST => kernel_rfl)
    (case oSS => kernel_rfl)
    (case oSG => kernel_rfl)
    (case ovS => kernel_rfl)
    (case xG => kernel_rfl)
    (case gaG => kernel_rfl)
    (case gtG => kernel_rfl)
    (case clG => kernel_rfl)
    (case hmG => kernel_rfl)
    (case hbG => kernel_rfl)
    (case itG => kernel_rfl)
    (case upG => kernel_rfl)
    (case oGT => kernel_rfl)
    (case oGS => kernel_rfl)
    (case oGG => kernel_rfl)
    (case ovG => kernel_rfl)
    (case a1 => k_is)
    (case l1 => k_is)
    (case c1 => k_is)
    (case k1 => k_is)
    (case a2 => k_is)
    (case l2 => k_is)
    (case c2 => k_is)
    (case k2 => k_is)
    (case a3 => k_is)
    (case l3 => k_is)
    (case c3 => k_is)
    (case k3 => k_is)
    (case a4 => k_is)
    (case l4 => k_is)
    (case c4 => k_is)
    (case k4 => k_is)
    (case a5 => k_is)
    (case l5 => k_is)
    (case c5 => k_is)
    (case k5 => k_is)
    (case a6 => k_is)
    (case l6 => k_is)
    (case c6 => k_is)
    (case k6 => k_is)
    (case a7 => k_is)
    (case l7 => k_is)
    (case c7 => k_is)
    (case k7 => k_is)
    (case a8 => k_is)
    (case l8 => k_is)
    (case c8 => k_is)
    (case k8 => k_is)
    (case a9 => k_is)
    (case l9 => k_is)
    (case c9 => k_is)
    (case k9 => k_is)
    (case a10 => k_is)
    (case l10 => k_is)
    (case c10 => k_is)
    (case k10 => k_is)
    (case a11 => k_is)
    (case l11 => k_is)
    (case c11 => k_is)
    (case k11 => k_is)
    (case a12 => k_is)
    (case l12 => k_is)
    (case c12 => k_is)
    (case k12 => k_is)
    (case a13 => k_is)
    (case l13 => k_is)
    (case c13 => k_is)
    (case k13 => k_is)
    (case a14 => k_is)
    (case l14 => k_is)
    (case c14 => k_is)
    (case k14 => k_is)
    (case a15 => k_is)
    (case l15 => k_is)
    (case c15 => k_is)
    (case k15 => k_is)
    (case a16 => k_is)
    (case l16 => k_is)
    (case c16 => k_is)
    (case k16 => k_is)
    (case a17 => k_is)
    (case l17 => k_is)
    (case c17 => k_is)
    (case k17 => k_is)
    (case a18 => k_is)
    (case l18 => k_is)
    (case c18 => k_is)
    (case k18 => k_is)
    (case a19 => k_is)
    (case l19 => k_is)
    (case c19 => k_is)
    (case k19 => k_is)
    (case a20 => k_is)
    (case l20 => k_is)
    (case c20 => k_is)
    (case k20 => k_is)
    (case a21 => k_is)
    (case l21 => k_is)
    (case c21 => k_is)
    (case k21 => k_is)
    (case z_ValueError => k_is)
    (case z_len => k_is)
    (case z_sum => k_is)
    (case z_all => k_is)
    (case z_any => k_is)
    (case z_sorted => k_is)
    (case z_isinstance => k_is)
    (case z_list => k_is)
    (case z_str => k_is)
    (case z_int => k_is)
    (case z_bool => k_is)
    (case z_set => k_is)
    (case z_range => k_is)
    (case z_enumerate => k_is)
    (case z_zip => k_is)
#print axioms PySem.Challenge.cw_wholeahead_k07_refused_holds

