import PyProof.Rows.All
import Wide.All
import OpenK.AllK
import Wide.FinOn
import Lean
import PyProof.EqAt
import PyProof.EqKinds
import PyProof.TupleCall
import PySem.Challenge.RW_wholeahead_k02_whole_steps
set_option Elab.async false
set_option linter.all false
set_option maxRecDepth 100000
namespace Wa
open PySem PySem.W PySem.Calls PyProof.Rows
def topRunT (tb : String → Option Builtin) (p : Program) (w : World) (n₀ : Nat) (ann : Option Value) : Nat → SharedT → Thread → Option SharedT
  | 0, _, _ => none
  | n + 1, s, t => match through t with
    | true => some s
    | false => match stepOk n₀ ann t with
      | false => none
      | true => match stepT (denote tb) p w s t with
        | some (s', t') => topRunT tb p w n₀ ann n s' t'
        | none => none
theorem topRunT_abs {tb : String → Option Builtin} {p : Program} {w : World} {n₀ : Nat} {ann : Option Value} : ∀ {n : Nat} {s r : SharedT} {t : Thread}, topRunT tb p w n₀ ann n s t = some r → topRun tb p w n₀ ann n s.abs t = some r.abs
  | 0, _, _, _, h => by cases h
  | n + 1, s, r, t, h => by
    unfold topRunT at h
    unfold topRun
    cases he : through t with
    | true => rw [he] at h; cases h; rfl
    | false =>
      rw [he] at h
      cases hk : stepOk n₀ ann t with
      | false => rw [hk] at h; cases h
      | true =>
        rw [hk] at h
        cases hs : stepT (denote tb) p w s t with
        | none => rw [hs] at h; cases h
        | some x => obtain ⟨s₂, t₂⟩ := x; rw [hs] at h; rw [stepT_spec hs]; exact topRunT_abs h
noncomputable def bootTree (P : Params) : BT := (BT.node (boot_o_0 P) (BT.node (boot_o_1 P) (BT.node (boot_o_3 P) (BT.node (boot_o_7 P) BT.nil BT.nil) BT.nil) (BT.node (boot_o_5 P) (BT.node (boot_o_9 P) BT.nil BT.nil) BT.nil)) (BT.node (boot_o_2 P) (BT.node (boot_o_4 P) (BT.node (boot_o_8 P) BT.nil BT.nil) BT.nil) (BT.node (boot_o_6 P) (BT.node (boot_o_10 P) BT.nil BT.nil) BT.nil)))
theorem bootTree_abs (P : Params) : boot_heap P = absHeap (bootTree P) 11 (boot_heap P).life := by kernel_rfl
noncomputable def lookAt (p q : Program) (loose : List Str) (Xt : Shared → Bool) {α : Type} (Yf : Shared → α) (h₀ : Heap) (s : Shared) :=
  ((staticsOk (importedModules p.main.body) h₀ s.heap && namesBound p s.heap && gensDone s && laidKept h₀ s.heap), openSeen q loose (importedModules p.main.body) Xt true s, Yf s)
noncomputable def seenAll (p q : Program) (loose : List Str) (Xt : Shared → Bool) {α : Type} (Yf : Shared → α) (M : Nat) (w : World) (os : OsState) :=
  (((boot_heap w.params).isNs mainGlobals, (boot_heap w.params).objs.size, (boot_heap w.params).nsMap mainGlobals "__annotations__"),
    (topRunT treeTable p w 11 (some (.ref 6)) M ⟨bootTree w.params, 11, (boot_heap w.params).life, Array.mk [], boot_drawn, boot_toks, os⟩ (topStub p)).map fun r => lookAt p q loose Xt Yf (boot_heap w.params) r.abs)
theorem left_of_tree {p q : Program} {loose : List Str} {Xt : Shared → Bool} {α : Type} {Yf : Shared → α} {Ya : World → α} {N : Nat} (M : Nat)
    (e : opening p = plainProg p.main.scope.names) (hN : Nat.ble 600 N = true) (f : ∀ s, fenceModules? p s = some s) (le : Nat.ble M N = true)
    (run : ∀ (w : World) (os : OsState), seenAll p q loose Xt Yf M w os = ((true, 11, some (.ref 6)), some (true, openGood q loose, Ya w))) : LeftO p q loose Xt Yf Ya N := fun w => by
  obtain ⟨⟨h, gs, d, k, os⟩, e1, e'⟩ := Option.map_eq_some_iff.mp (boot_open e hN f w)
  obtain ⟨rfl, rfl, rfl, rfl⟩ : h = boot_heap w.params ∧ gs = Array.mk [] ∧ d = boot_drawn ∧ k = boot_toks := by simpa using e'
  have R := run w os
  unfold seenAll at R
  obtain ⟨z, R⟩ := Prod.mk.inj R
  obtain ⟨z1, z2, z3⟩ : _ ∧ _ ∧ _ := by simpa only [Prod.mk.injEq] using z
  obtain ⟨r, hr, hl⟩ := Option.map_eq_some_iff.mp R
  unfold lookAt at hl
  obtain ⟨l1, l2, l3⟩ : _ ∧ _ ∧ _ := by simpa only [Prod.mk.injEq] using hl
  have r1 := topRun_mono (N - M) _ _ _ _ (topRunT_abs hr)
  rw [show M + (N - M) = N by have := Nat.le_of_ble_eq_true le; omega] at r1
  have hb : (⟨boot_heap w.params, Array.mk [], boot_drawn, boot_toks, os⟩ : Shared) = SharedT.abs ⟨bootTree w.params, 11, (boot_heap w.params).life, Array.mk [], boot_drawn, boot_toks, os⟩ := by
    unfold SharedT.abs
    dsimp only
    rw [← bootTree_abs]
  have t : topFrom treeTable p w N ⟨boot_heap w.params, Array.mk [], boot_drawn, boot_toks, os⟩ = some r.abs := by
    unfold topFrom
    dsimp only
    rw [z1, z2, z3, hb, r1]
    show (match staticsOk (importedModules p.main.body) (boot_heap w.params) r.abs.heap && namesBound p r.abs.heap && gensDone r.abs && laidKept (boot_heap w.params) r.abs.heap with | true => _ | false => _) = _
    rw [l1]
  unfold openEnds
  rw [e1]
  show (topFrom treeTable p w N _).map _ = _
  rw [t]
  show some (_, _) = some (_, _)
  rw [l2, l3]
end Wa
namespace Wa
open PySem PySem.W PySem.Calls PyProof.Rows
end Wa
namespace Wa
open PySem PySem.W PySem.Calls PyProof.Rows
noncomputable def seenKM (p q : Program) (R : WRecords) (M : Nat) (as ts : List Addr) (w : World) (os : OsState) :=
  seenAll p q [] (fun s => xlAt q [] s && recOk R s) (fun s => (as.map s.heap.get?, ts.map s.heap.get?)) M w os
noncomputable def dueKM (q : Program) (K : Params → Frag) (ts : List Addr) (w : World) :=
  (((true, 11, some (Value.ref 6)), some (true, openGood q [], (K w.params).map fun p => some p.2, ts.map fun _ => some (tabObj #[]))) : (Bool × Nat × Option Value) × Option (Bool × _ × List (Option Obj) × List (Option Obj)))
theorem left_km {p q : Program} {R : WRecords} {K : Params → Frag} {as ts : List Addr} {ek : ∀ P, as = (K P).map (·.1)} {N : Nat} (M : Nat)
    (e : opening p = plainProg p.main.scope.names) (hN : Nat.ble 600 N = true) (f : ∀ s, fenceModules? p s = some s) (le : Nat.ble M N = true)
    (run : ∀ (w : World) (os : OsState), seenKM p q R M as ts w os = dueKM q K ts w) :
    LeftO p q [] (fun s => xlAt q [] s && recOk R s) (Hook.obs (kmHook K as ek ts)) (Hook.val (kmHook K as ek ts)) N := left_of_tree M e hN f le run
end Wa
set_option maxHeartbeats 0
def Wa.view : PySem.Program := { PySem.Challenge.pw_wholeahead_k02_whole_steps with main := { PySem.Challenge.pw_wholeahead_k02_whole_steps.main with body := (PySem.Challenge.pw_wholeahead_k02_whole_steps.main.body.drop 1).take 2 ++ ((PySem.Challenge.pw_wholeahead_k02_whole_steps.main.body.drop 4).take 10 ++ ((PySem.Challenge.pw_wholeahead_k02_whole_steps.main.body.drop 15).take 17 ++ ((PySem.Challenge.pw_wholeahead_k02_whole_steps.main.body.drop 33).take 6 ++ ((PySem.Challenge.pw_wholeahead_k02_whole_steps.main.body.drop 40))))) } }
theorem Wa.lay1 : (fun _ => true) @Wa.seenKM = true := by k_qdec
theorem Wa.lay2 : (fun _ => true) @Wa.dueKM = true := by k_qdec
theorem Wa.lay3 : (fun _ => true) Wa.view = true := by k_qdec
local macro_rules | `(tactic| o_head $H:term) => `(tactic| refine PySem.W.holds_open (q := Wa.view) (loose := []) (Xt := fun s => PySem.W.xlAt Wa.view [] s && PySem.W.recOk (PySem.W.RowW.records (PySem.W.OpenRow.toRowW (PySem.W.OpenLaw.row PySem.Challenge.rw_wholeahead_k02_whole_steps))) s) (XP := PySem.W.XL Wa.view []) (Yf := PySem.W.Hook.obs $H) (Ya := PySem.W.Hook.val $H) (YP := PySem.W.Hook.says $H) (N := 8850) ?_ (PySem.W.Hook.of $H) (PySem.W.Hook.keeps $H) (fun s e => PySem.W.xl_of s (Bool.and_eq_true_iff.mp e).1) PySem.W.XL.keeps (by rfl) (by rfl) (by rfl) (fun s e => PySem.W.recFacts_of (Bool.and_eq_true_iff.mp e).2) (by rfl) (by first | assumption | decide +kernel) (by decide +kernel) ⟨rfl, rfl, rfl, rfl, rfl, by decide +kernel⟩ ?_ ?_)
/-- of no use but that the heap's names are laid: under a premise that can't be -/
theorem Wa.early (any : ∀ p : Prop, p) : PySem.Challenge.rw_wholeahead_k02_whole_steps.row.Holds := by
  k_head
  all_goals exact any _
def Wa.ads : List PySem.Addr := [2, 3, 15, 22, 23, 24, 25, 28, 35, 36, 37, 40, 42, 43, 45, 46, 47, 50, 51, 52, 54, 55, 57, 58, 59, 61, 62, 64, 65, 66, 68, 69, 71, 72, 73, 75, 76, 78, 79, 80, 82, 83, 85, 86, 87, 89, 90, 92, 93, 94, 97, 98, 99, 102, 103, 104, 107, 108, 109, 112, 113, 114, 117, 118, 119, 122, 123, 124, 127, 128, 129, 131, 132, 134, 135, 143, 144, 145, 146, 147, 150, 157, 159, 160, 162, 163, 164, 166, 167, 169, 170, 171, 172, 173, 176, 183, 185, 186, 188, 189, 190, 192, 193, 195, 196, 197, 198, 199, 202, 209, 211, 212, 214, 215, 216, 219, 220, 221, 224, 225, 226, 227, 228, 231, 238, 240, 241, 243, 244, 245, 247, 248, 250, 251, 252, 253, 254, 257, 264, 266, 267, 269, 270, 271, 273, 274, 276, 277, 278, 279, 280, 283, 290, 292, 293, 295, 296, 297, 299, 300, 302, 303, 304, 305, 306, 309, 316, 318, 319, 321, 322, 323, 325, 326, 328, 329, 330, 331, 332, 335, 342, 344, 345, 347, 348, 349, 351, 352, 354, 355, 356, 357, 358, 361, 368, 370, 371, 373, 374, 375, 377, 378, 380, 381, 382, 383, 384, 387, 394, 396, 397, 399, 400, 401, 403, 404, 406, 407, 408, 409, 410, 413, 415, 416, 418, 419, 420, 423, 424, 425, 427, 428, 430, 431, 432, 435, 436, 437, 439, 440, 442, 443, 444, 447, 448, 449, 452, 453, 454, 457, 458, 459, 462, 463, 464, 466, 467, 469, 470, 471, 473, 474, 476, 477, 478, 480, 481, 483, 484, 485, 488, 489, 490, 492, 493, 495, 496, 497, 499, 500, 502, 503, 504, 507, 508]
theorem Wa.ads_is : ∀ P, Wa.ads = (Wa.early.heap_1 P).map (·.1) := fun _ => by kernel_rfl
theorem Wa.left : PySem.W.LeftO PySem.Challenge.pw_wholeahead_k02_whole_steps Wa.view [] (fun s => PySem.W.xlAt Wa.view [] s && PySem.W.recOk (PySem.W.RowW.records (PySem.W.OpenRow.toRowW (PySem.W.OpenLaw.row PySem.Challenge.rw_wholeahead_k02_whole_steps))) s) (PySem.W.Hook.obs (PySem.W.kmHook Wa.early.heap_1 Wa.ads Wa.ads_is [438])) (PySem.W.Hook.val (PySem.W.kmHook Wa.early.heap_1 Wa.ads Wa.ads_is [438])) 8850 := by
  have _ := Wa.lay1; have _ := Wa.lay2; have _ := Wa.lay3
  refine Wa.left_km (p := PySem.Challenge.pw_wholeahead_k02_whole_steps) 4460 (by kernel_rfl) (by rfl) (fun s => by kernel_rfl) (by rfl) ?_
  intro w os
  rw [PySem.W.Fast.te3655347863795871703, PySem.W.Fast.te164082266347178740, PySem.W.Fast.te9366832918595768805, PySem.W.Fast.te8103168835125166328]
  kernel_rfl
set_option maxHeartbeats 200000
set_option Elab.async false
set_option linter.all false
set_option maxRecDepth 100000
namespace L2
open PySem PySem.Spec PyProof.Rows

/-- a key: an int or a str -/
abbrev Key := Sum Int Str
def keyIs : Key → Value → Bool
  | .inl k, v => Value.isInt k v
  | .inr x, v => Value.isStrOf x v
def keyH (w : World) : Key → Int
  | .inl k => hashInt k
  | .inr x => hashStr w x
theorem keyIs_shape : ∀ {k : Key} {v : Value}, keyIs k v = true → (∃ i t, k = Sum.inl i ∧ v = Value.int i t) ∨ (∃ x t, k = Sum.inr x ∧ v = Value.str x t)
  | .inl i, v, h => by
    obtain ⟨t, e⟩ := Value.isInt_shape (k := i) (v := v) h
    exact .inl ⟨i, t, rfl, e⟩
  | .inr x, v, h => by
    obtain ⟨t, e⟩ := Value.isStrOf_shape (x := x) (v := v) h
    exact .inr ⟨x, t, rfl, e⟩
theorem keyIs_int (i : Int) (t : Tok) : keyIs (.inl i) (.int i t) = true := by simp [keyIs, Value.isInt]
theorem keyIs_str (x : Str) (t : Tok) : keyIs (.inr x) (.str x t) = true := by simp [keyIs, Value.isStrOf]
theorem key_ll (a b : Int) : decide ((Sum.inl a : Key) = Sum.inl b) = (a == b) := by
  by_cases e : a = b
  · subst e; simp
  · have h : ¬ (Sum.inl a : Key) = Sum.inl b := fun q => e (Sum.inl.inj q)
    rw [decide_eq_false h]
    exact (beq_eq_false_iff_ne.mpr e).symm
theorem key_rr (a b : Str) : decide ((Sum.inr a : Key) = Sum.inr b) = decide (a = b) := by
  by_cases e : a = b
  · subst e; simp
  · have h : ¬ (Sum.inr a : Key) = Sum.inr b := fun q => e (Sum.inr.inj q)
    rw [decide_eq_false h, decide_eq_false e]
theorem key_lr (a : Int) (b : Str) : decide ((Sum.inl a : Key) = Sum.inr b) = false := decide_eq_false (fun q => nomatch q)
theorem key_rl (a : Str) (b : Int) : decide ((Sum.inr a : Key) = Sum.inl b) = false := decide_eq_false (fun q => nomatch q)

def mixKind (prog : Program) (w : World) : PySem.KeyKind prog w Key where
  is := keyIs
  hash := keyH w
  inj := fun v a b ha hb => by
    rcases keyIs_shape ha with ⟨i, t, rfl, rfl⟩ | ⟨x, t, rfl, rfl⟩
    · rcases keyIs_shape hb with ⟨j, u, rfl, e⟩ | ⟨y, u, rfl, e⟩
      · injection e with e1 _; rw [e1]
      · exact nomatch e
    · rcases keyIs_shape hb with ⟨j, u, rfl, e⟩ | ⟨y, u, rfl, e⟩
      · exact nomatch e
      · injection e with e1 _; rw [e1]
  byValue := fun k v h => by
    rcases keyIs_shape h with ⟨i, t, rfl, rfl⟩ | ⟨x, t, rfl, rfl⟩ <;> rfl
  pyHash := fun hv h => by
    rcases keyIs_shape hv with ⟨i, t, rfl, rfl⟩ | ⟨x, t, rfl, rfl⟩
    · exact wpAny_pyHash_int h
    · exact wpAny_pyHash_str h
  eqBool := fun hu hv h => by
    rcases keyIs_shape hu with ⟨i, t, rfl, rfl⟩ | ⟨x, t, rfl, rfl⟩
    · rcases keyIs_shape hv with ⟨j, u, rfl, rfl⟩ | ⟨y, u, rfl, rfl⟩
      · rw [key_ll] at h; exact wpAny_eqBool_int h
      · rw [key_lr] at h; exact SeqAt.EqAt.int_str i t y u _ _ _ _ h
    · rcases keyIs_shape hv with ⟨j, u, rfl, rfl⟩ | ⟨y, u, rfl, rfl⟩
      · rw [key_rl] at h; exact SeqAt.EqAt.str_int x t j u _ _ _ _ h
      · rw [key_rr] at h; exact wpAny_eqBool_str h
  «strs» := fun k x t v h => by
    rcases keyIs_shape h with ⟨i, u, rfl, e⟩ | ⟨y, u, rfl, e⟩
    · exact nomatch e
    · injection e with e1 _
      subst e1
      cases v <;> rfl

theorem mixKind_int (prog : Program) (w : World) (i : Int) (t : Tok) : (mixKind prog w).is (.inl i) (.int i t) = true := keyIs_int i t
theorem mixKind_str (prog : Program) (w : World) (x : Str) (t : Tok) : (mixKind prog w).is (.inr x) (.str x t) = true := keyIs_str x t
end L2

namespace L2
open PySem PySem.Spec PyProof.Rows

/-- a value, without the heap -/
inductive V where
  | non | bl (b : Bool) | int (i : Int) | str (x : Str) | byt (b : Array UInt8) | flt (b : UInt64) | ref (a : Addr) | ty (n : String)
  deriving DecidableEq

def RelV : V → Value → Prop
  | .non, u => u = Value.none
  | .bl b, u => u = Value.bool b
  | .int i, u => ∃ t, u = Value.int i t
  | .str x, u => ∃ t, u = Value.str x t
  | .byt b, u => ∃ t, u = Value.bytes b t
  | .flt b, u => ∃ t, u = Value.float b t
  | .ref a, u => u = Value.ref a
  | .ty n, u => u = Value.type n

abbrev Vals : List V → List Value → Prop := Paired RelV
theorem Vals.length {xs : List V} {us : List Value} (r : Vals xs us) : xs.length = us.length := Paired.length r
theorem Vals.get : ∀ {xs : List V} {us : List Value} {i : Nat} {x : V}, Vals xs us → xs[i]? = some x → ∃ u, us[i]? = some u ∧ RelV x u
  | _, _, _, _, .nil, e => by simp at e
  | _, _, 0, _, .cons r _, e => by simp at e; subst e; exact ⟨_, rfl, r⟩
  | _, _, i + 1, x, .cons _ t, e => by
    obtain ⟨u, h1, h2⟩ := Vals.get (i := i) (x := x) t (by simpa using e)
    exact ⟨u, by simpa using h1, h2⟩
theorem Vals.set {x : V} {u : Value} (r : RelV x u) : ∀ {xs : List V} {us : List Value} (i : Nat), Vals xs us → Vals (xs.set i x) (us.set i u)
  | _, _, _, .nil => .nil
  | _, _, 0, .cons _ t => .cons r t
  | _, _, i + 1, .cons q t => .cons q (Vals.set r i t)
theorem Vals.append : ∀ {xs ys : List V} {us ws : List Value}, Vals xs us → Vals ys ws → Vals (xs ++ ys) (us ++ ws)
  | _, _, _, _, .nil, s => s
  | _, _, _, _, .cons r t, s => .cons r (Vals.append t s)
theorem Vals.take : ∀ {xs : List V} {us : List Value} (n : Nat), Vals xs us → Vals (xs.take n) (us.take n)
  | _, _, 0, _ => .nil
  | _, _, _ + 1, .nil => .nil
  | _, _, n + 1, .cons r t => .cons r (Vals.take n t)
theorem Vals.drop : ∀ {xs : List V} {us : List Value} (n : Nat), Vals xs us → Vals (xs.drop n) (us.drop n)
  | _, _, 0, r => r
  | _, _, _ + 1, .nil => .nil
  | _, _, n + 1, .cons _ t => Vals.drop n t
theorem Vals.none_of : ∀ {xs : List V} {us : List Value} {i : Nat}, Vals xs us → xs[i]? = none → us[i]? = none := fun {xs us i} r e => by
  have h1 := r.length
  have h2 : xs.length ≤ i := List.getElem?_eq_none_iff.mp e
  exact List.getElem?_eq_none_iff.mpr (by omega)

def RelO : Option V → Option Value → Prop
  | some v, some u => RelV v u
  | none, none => True
  | _, _ => False
def KV {κ : Type} : List (κ × V) → List (κ × Value) → Prop := Paired fun (p : κ × V) (q : κ × Value) => p.1 = q.1 ∧ RelV p.2 q.2

/-- a key of a dict (00_mix): an int or a text -/
def kV : Key → V
  | .inl i => .int i
  | .inr x => .str x

/-- what stands at a tracked address -/
inductive HO where
  /-- a list -/
  | lst (xs : List V)
  /-- a tuple (never changes) -/
  | tup (xs : List V)
  /-- a dict whose keys are ints and texts; one whose keys are tuples of ints and texts (the empty one is both) -/
  | dK (kvs : List (Key × V)) | dT (kvs : List (List Key × V))
  /-- a set of ints: its members, its size -/
  | set (S : Int → Bool) (n : Nat)
  /-- an instance of the class at C, its dict at dx, its attributes -/
  | ins (C dx : Addr) (fs : List (Str × V))
  /-- the dict of the instance at x -/
  | own (x : Addr)
  /-- the dict of an exception -/
  | xd (fs : List (Str × V))
  /-- a bound method, f of x -/
  | met (f x : Addr)
  /-- a range object lo, lo + 1, .. below hi -/
  | rng (lo hi : Int)
  /-- a thing that is known to the object (the script; a dict while a loop walks it): read, never written while it is so -/
  | frz (o : Obj) (u : HO)
  /-- a code object's table -/
  | tbl (lp : Pos) (qn : Str)
  /-- any other thing, by what is true of its one object (a def of one's own: SetO a S n := HO.ext fun h => ..) -/
  | ext (φ : Heap → Prop)

abbrev Hp := Addr → Option HO
def upd (H : Hp) (a : Addr) (o : HO) : Hp := fun b => if b = a then some o else H b
theorem upd_same {H : Hp} {a : Addr} {o : HO} : upd H a o a = some o := by unfold upd; rw [if_pos rfl]
theorem upd_ne {H : Hp} {a b : Addr} {o : HO} (h : b ≠ a) : upd H a o b = H b := by unfold upd; rw [if_neg h]
theorem upd_upd {H : Hp} {a : Addr} {o u : HO} : upd (upd H a o) a u = upd H a u := by
  funext b; unfold upd; split <;> rfl
/-- two objects of different content stand apart -/
theorem ne_of {H : Hp} {a b : Addr} {o u : HO} (h : H a = some o) (h' : H b = some u) (d : o ≠ u) : a ≠ b := by
  intro e; subst e; rw [h] at h'; exact d (Option.some.inj h')
theorem ne_of_none {H : Hp} {a b : Addr} {o : HO} (h : H a = some o) (h' : H b = none) : a ≠ b := by
  intro e; subst e; rw [h] at h'; cases h'

section
variable (P : Program) (w : World)
def ObjOk (H : Hp) (h : Heap) (a : Addr) : HO → Prop
  | .lst xs => xs.length ≤ sizeLine ∧ ∃ (its : List Value) (n : Nat), Vals xs its ∧ h.get? a = some { cls := .type "list", data := .seq its.toArray n }
  | .tup xs => xs.length ≤ sizeLine ∧ ∃ its : List Value, Vals xs its ∧ IsTup h a its.toArray
  | .dK kvs => kvs.length ≤ sizeLine ∧ (a == sysModules) = false ∧ ∃ vs, KV kvs vs ∧ h.DictOf (mixKind P w) a vs
  | .dT kvs => kvs.length ≤ sizeLine ∧ (a == sysModules) = false ∧ ∃ xs : List (List Key × Addr × Value),
      Paired (fun (p : List Key × V) (q : List Key × Addr × Value) => p.1 = q.1 ∧ H q.2.1 = some (.tup (p.1.map kV)) ∧ RelV p.2 q.2.2) kvs xs ∧
      ∃ o es ep, h.get? a = some o ∧ o.ExactDict ∧ o.data = .dict es ep ∧ es.toList = xs.map (entryOfKey (tupleKind (mixKind P w))) ∧ (xs.map (·.1)).Nodup
  | .set S n => h.SetOf (intKind P w) a S n
  | .ins C dx fs => H dx = some (.own a) ∧ fs.length ≤ 1000 ∧ dx ≠ a ∧ h.get? a = some (PySem.W.instObj C dx) ∧
      ∃ mA, h.Ns1 dx mA ∧ (∀ f, RelO (fs.lookup f) (mA f)) ∧ PySem.Within mA (fs.map (·.1))
  | .own _ => ∃ o, h.get? a = some o
  | .xd fs => ∃ mA, h.Ns1 a mA ∧ ∀ f, RelO (fs.lookup f) (mA f)
  | .rng lo hi => ∃ t u v, h.get? a = some { cls := .type "range", data := .fields #[.int lo t, .int hi u, .int 1 v] }
  | .frz o u => h.get? a = some o ∧ ObjOk H h a u
  | .tbl lp qn => ∃ ps : Array Value, h.get? a = some { cls := .none, data := .fields ps } ∧ (ps = #[] ∨ ∃ c, H c = some (.own a) ∧ c ≠ a ∧ ps = #[rawInt lp.line, rawInt lp.col, .ref c] ∧ h.CodeRec (.ref c) qn)
  | .met f x => h.get? a = some (PySem.W.methodObj (.ref f) (.ref x))
  | .ext φ => φ h ∧ (∃ o, h.get? a = some o) ∧ ∀ h1 h2 : Heap, φ h1 → (∀ o, h1.get? a = some o → h2.get? a = some o) → φ h2
/-- the abstract heap is held -/
def HOk (H : Hp) (h : Heap) : Prop := ∀ a o, H a = some o → ObjOk P w H h a o
end

section
variable {P : Program} {w : World} {H H' : Hp} {h h' : Heap} {a : Addr} {o : HO}
theorem ObjOk.lt (x : ObjOk P w H h a o) : a < h.objs.size := by
  cases o with
  | lst xs => obtain ⟨_, _, _, _, e⟩ := x; exact Heap.lt_size e
  | tup xs => obtain ⟨_, _, _, p⟩ := x; exact p.lt
  | dK kvs => obtain ⟨_, _, _, _, o, _, _, e, _⟩ := x; exact Heap.lt_size e
  | dT kvs => obtain ⟨_, _, _, _, o, _, _, e, _⟩ := x; exact Heap.lt_size e
  | set S n => obtain ⟨o, _, _, _, e, _⟩ := x; exact Heap.lt_size e
  | ins C dx fs => obtain ⟨_, _, _, e, _⟩ := x; exact Heap.lt_size e
  | own y => obtain ⟨_, e⟩ := x; exact Heap.lt_size e
  | xd fs => obtain ⟨_, ⟨_, _, _, e, _⟩, _⟩ := x; exact Heap.lt_size e
  | rng lo hi => obtain ⟨_, _, _, e⟩ := x; exact Heap.lt_size e
  | frz ob u => obtain ⟨e, _⟩ := x; exact Heap.lt_size e
  | tbl lp qn => obtain ⟨ps, e, _⟩ := x; exact Heap.lt_size e
  | met f y => exact Heap.lt_size (show h.get? a = some _ from x)
  | ext φ => obtain ⟨_, ⟨_, e⟩, _⟩ := x; exact Heap.lt_size e
theorem Paired.mapP {α β : Type} {F G : α → β → Prop} : ∀ {l₁ : List α} {l₂ : List β}, Paired F l₁ l₂ → (∀ a b, F a b → G a b) → Paired G l₁ l₂
  | _, _, .nil, _ => .nil
  | _, _, .cons r t, f => .cons (f _ _ r) (Paired.mapP t f)
/-- what an object's description leans on: its own object, its own dict, the tuples -/
theorem ObjOk.stay (x : ObjOk P w H h a o) (k : ∀ b u, (b = a ∨ H b = some (.own a)) → h.get? b = some u → h'.get? b = some u)
    (ho : ∀ b, H b = some (.own a) → H' b = some (.own a)) (ht : ∀ b xs, H b = some (.tup xs) → H' b = some (.tup xs)) : ObjOk P w H' h' a o := by
  induction o with
  | lst xs => obtain ⟨z, its, n, r, e⟩ := x; exact ⟨z, its, n, r, k _ _ (.inl rfl) e⟩
  | tup xs => obtain ⟨z, its, r, ob, e, c⟩ := x; exact ⟨z, its, r, ob, k _ _ (.inl rfl) e, c⟩
  | dK kvs => obtain ⟨z, y, vs, r, ob, es, ep, e, c⟩ := x; exact ⟨z, y, vs, r, ob, es, ep, k _ _ (.inl rfl) e, c⟩
  | dT kvs =>
    obtain ⟨z, y, xs, r, ob, es, ep, e, c⟩ := x
    exact ⟨z, y, xs, Paired.mapP r fun p q z => ⟨z.1, ht _ _ z.2.1, z.2.2⟩, ob, es, ep, k _ _ (.inl rfl) e, c⟩
  | set S n => obtain ⟨ob, es, ep, t, e, c⟩ := x; exact ⟨ob, es, ep, t, k _ _ (.inl rfl) e, c⟩
  | ins C dx fs =>
    obtain ⟨d, z, ne, e, mA, ⟨od, es, ep, e2, c⟩, r⟩ := x
    exact ⟨ho _ d, z, ne, k _ _ (.inl rfl) e, mA, ⟨od, es, ep, k _ _ (.inr d) e2, c⟩, r⟩
  | own y => obtain ⟨ob, e⟩ := x; exact ⟨ob, k _ _ (.inl rfl) e⟩
  | xd fs => obtain ⟨mA, ⟨od, es, ep, e, c⟩, r⟩ := x; exact ⟨mA, ⟨od, es, ep, k _ _ (.inl rfl) e, c⟩, r⟩
  | rng lo hi => obtain ⟨t, u, v, e⟩ := x; exact ⟨t, u, v, k _ _ (.inl rfl) e⟩
  | frz ob u ih => obtain ⟨e, q⟩ := x; exact ⟨k _ _ (.inl rfl) e, ih q⟩
  | tbl lp qn =>
    obtain ⟨ps, e, r⟩ := x
    refine ⟨ps, k _ _ (.inl rfl) e, ?_⟩
    rcases r with r | ⟨c, hc, nc, r, c2, oc, vs, tq, z1, z2, z3⟩
    · exact .inl r
    · cases z1
      exact .inr ⟨c, ho _ hc, nc, r, c, oc, vs, tq, rfl, k _ _ (.inr hc) z2, z3⟩
  | met f y =>
    have e : h.get? a = some (PySem.W.methodObj (.ref f) (.ref y)) := x
    show h'.get? a = some (PySem.W.methodObj (.ref f) (.ref y))
    exact k a _ (.inl rfl) e
  | ext φ => obtain ⟨p, ⟨o, e⟩, st⟩ := x; exact ⟨st _ _ p fun o q => k _ _ (.inl rfl) q, ⟨o, k _ _ (.inl rfl) e⟩, st⟩
theorem HOk.lt (x : HOk P w H h) (e : H a = some o) : a < h.objs.size := (x a o e).lt
theorem HOk.fresh (x : HOk P w H h) (e : h.objs.size ≤ a) : H a = none := by
  cases q : H a with
  | none => rfl
  | some u => exact absurd (Nat.lt_of_lt_of_le (x.lt q) e) (Nat.lt_irrefl _)
/-- every object of the heap is kept -/
theorem HOk.kept (x : HOk P w H h) (k : ∀ b u, h.get? b = some u → h'.get? b = some u) : HOk P w H h' := fun a o e =>
  (x a o e).stay (fun b u _ q => k b u q) (fun _ q => q) fun _ _ q => q
/-- a new object is laid and tracked -/
theorem HOk.laid (x : HOk P w H h) (k : ∀ b u, h.get? b = some u → h'.get? b = some u) (hp : h.objs.size ≤ a) (new : ObjOk P w (upd H a o) h' a o) : HOk P w (upd H a o) h' := fun b u e => by
  have hn := x.fresh hp
  by_cases hb : b = a
  · subst hb; rw [upd_same] at e; cases e; exact new
  · rw [upd_ne hb] at e
    exact (x b u e).stay (fun c v _ q => k c v q) (fun c q => by rw [upd_ne (ne_of_none q hn)]; exact q) fun c xs q => by rw [upd_ne (ne_of_none q hn)]; exact q
end

/-- what may be read as u: it is u, or a known u -/
def Rd (H : Hp) (a : Addr) (u : HO) : Prop := H a = some u ∨ ∃ o, H a = some (.frz o u)
theorem Rd.of {H : Hp} {a : Addr} {u : HO} (h : H a = some u) : Rd H a u := .inl h
theorem Rd.ok {P : Program} {w : World} {H : Hp} {h : Heap} {a : Addr} {u : HO} (r : Rd H a u) (x : HOk P w H h) : ObjOk P w H h a u := by
  rcases r with r | ⟨o, r⟩
  · exact x a u r
  · obtain ⟨_, q⟩ := x a _ r
    exact q
/-- what may be written -/
def Mut : Option HO → Prop
  | some (.lst _) => True
  | some (.dK _) => True
  | some (.dT _) => True
  | some (.set _ _) => True
  | some (.ins _ _ _) => True
  | some (.ext _) => True
  | _ => False
section
variable {P : Program} {w : World} {H : Hp} {h h' : Heap} {x e : Addr} {o' : HO}
/-- the object at e is changed: x itself, or the dict of the instance x -/
theorem HOk.write (ok : HOk P w H h) (mu : Mut (H x)) (he : e = x ∨ H e = some (.own x)) (k : ∀ b u, b ≠ e → h.get? b = some u → h'.get? b = some u) (heo : ∃ u, h'.get? e = some u)
    (new : ObjOk P w (upd H x o') h' x o') : HOk P w (upd H x o') h' := fun b u q => by
  have nown : ∀ c y, H c = some (.own y) → c ≠ x := fun c y r z => by subst z; rw [r] at mu; exact mu
  have ntup : ∀ c xs, H c = some (.tup xs) → c ≠ x := fun c xs r z => by subst z; rw [r] at mu; exact mu
  by_cases hb : b = x
  · subst hb; rw [upd_same] at q; cases q; exact new
  · rw [upd_ne hb] at q
    by_cases hbe : b = e
    · have q' : H b = some (.own x) := by
        rcases he with z | z
        · exact absurd (hbe.trans z) hb
        · rw [hbe]; exact z
      rw [q] at q'; cases q'
      obtain ⟨v, hv⟩ := heo
      exact ⟨v, by rw [hbe]; exact hv⟩
    · refine (ok b u q).stay (fun c v hc r => k c v ?_ r) (fun c r => by rw [upd_ne (nown c b r)]; exact r) fun c xs r => by rw [upd_ne (ntup c xs r)]; exact r
      rcases hc with rfl | hc
      · exact hbe
      · rintro rfl
        rcases he with z | z
        · exact nown c b hc z
        · rw [hc] at z; cases z; exact hb rfl
end

structure Un (fs ex : List Addr) (H H' : Hp) (h h' : Heap) : Prop where
  keep : ∀ b o, h.get? b = some o → H b = none → b ∉ fs → b ∉ ex → h'.get? b = some o
  slot : ∀ b o, h.get? b = some o → H b = none → b ∈ fs → b ∉ ex → ∃ sl, h'.get? b = some { o with slots := sl }
  free : ∀ b o, h.get? b = some o → H b = none → b ∉ ex → H' b = none
  there : ∀ b o, h.get? b = some o → b ∉ ex → ∃ o', h'.get? b = some o'
  tups : ∀ b xs, H b = some (.tup xs) → H' b = some (.tup xs)
  frzs : ∀ b o u, H b = some (.frz o u) → H' b = some (.frz o u)
  tbls : ∀ b lp qn, H b = some (.tbl lp qn) → H' b = some (.tbl lp qn)
section
variable {fs fs' ex ex' : List Addr} {H H1 H2 : Hp} {h h1 h2 h' : Heap} {a x e : Addr} {o : HO}
theorem Un.any (u : Un fs ex H H1 h h1) {b : Addr} {ob : Obj} (q : h.get? b = some ob) (n : H b = none) (hx : b ∉ ex) : ∃ sl, h1.get? b = some { ob with slots := sl } := by
  by_cases hb : b ∈ fs
  · exact u.slot b ob q n hb hx
  · exact ⟨ob.slots, u.keep b ob q n hb hx⟩
theorem Un.trans (a : Un fs ex H H1 h h1) (b : Un fs ex H1 H2 h1 h2) : Un fs ex H H2 h h2 where
  keep := fun c ob q n hc hx => b.keep c ob (a.keep c ob q n hc hx) (a.free c ob q n hx) hc hx
  slot := fun c ob q n hc hx => by
    obtain ⟨sl, e1⟩ := a.slot c ob q n hc hx
    obtain ⟨sl', e2⟩ := b.slot c _ e1 (a.free c ob q n hx) hc hx
    exact ⟨sl', e2⟩
  free := fun c ob q n hx => by
    obtain ⟨o', e1⟩ := a.there c ob q hx
    exact b.free c o' e1 (a.free c ob q n hx) hx
  there := fun c ob q hx => by
    obtain ⟨o', e1⟩ := a.there c ob q hx
    exact b.there c o' e1 hx
  tups := fun c xs q => b.tups c xs (a.tups c xs q)
  frzs := fun c ob xs q => b.frzs c ob xs (a.frzs c ob xs q)
  tbls := fun c lp qn q => b.tbls c lp qn (a.tbls c lp qn q)
theorem Un.kept (k : ∀ b u, h.get? b = some u → h'.get? b = some u) : Un fs ex H H h h' :=
  ⟨fun b ob q _ _ _ => k b ob q, fun b ob q _ _ _ => ⟨ob.slots, k b ob q⟩, fun _ _ _ n _ => n, fun b ob q _ => ⟨ob, k b ob q⟩, fun _ _ q => q, fun _ _ _ q => q, fun _ _ _ q => q⟩
theorem Un.refl : Un fs ex H H h h := Un.kept fun _ _ q => q
theorem Un.laid (k : ∀ b u, h.get? b = some u → h'.get? b = some u) (hp : h.objs.size ≤ a) (hn : H a = none) : Un fs ex H (upd H a o) h h' where
  keep := fun b u q _ _ _ => k b u q
  slot := fun b u q _ _ _ => ⟨u.slots, k b u q⟩
  free := fun b u q n _ => by rw [upd_ne (Nat.ne_of_lt (Nat.lt_of_lt_of_le (Heap.lt_size q) hp))]; exact n
  there := fun b u q _ => ⟨u, k b u q⟩
  tups := fun b xs q => by rw [upd_ne (ne_of_none q hn)]; exact q
  frzs := fun b u xs q => by rw [upd_ne (ne_of_none q hn)]; exact q
  tbls := fun b lp qn q => by rw [upd_ne (ne_of_none q hn)]; exact q
theorem Un.write (mu : Mut (H x)) (he : e = x ∨ H e = some (.own x)) (k : ∀ b u, b ≠ e → h.get? b = some u → h'.get? b = some u) (heo : ∃ u, h'.get? e = some u) : Un fs ex H (upd H x o) h h' := by
  have hx : ∀ b, H b = none → b ≠ x := fun b n z => by subst z; rw [n] at mu; exact mu
  have hb : ∀ b, H b = none → b ≠ e := fun b n z => by
    subst z
    rcases he with r | r
    · exact hx b n r
    · rw [n] at r; cases r
  have hm : ∀ b u, H b = some u → ¬ Mut (some u) → b ≠ x := fun b u q nm z => by subst z; rw [q] at mu; exact nm mu
  refine ⟨fun b u q n _ _ => k b u (hb b n) q, fun b u q n _ _ => ⟨u.slots, k b u (hb b n) q⟩, fun b u q n _ => by rw [upd_ne (hx b n)]; exact n, fun b u q _ => ?_,
    fun b xs q => by rw [upd_ne (hm b _ q fun z => z)]; exact q, fun b u xs q => by rw [upd_ne (hm b _ q fun z => z)]; exact q, fun b lp qn q => by rw [upd_ne (hm b _ q fun z => z)]; exact q⟩
  by_cases hbe : b = e
  · subst hbe; exact heo
  · exact ⟨u, k b u hbe q⟩
theorem Un.mono (u : Un fs ex H H1 h h1) (hs : ∀ b ∈ fs, b ∈ fs') (hx : ∀ b ∈ ex, b ∈ ex') : Un fs' ex' H H1 h h1 :=
  ⟨fun b ob q n hb he => u.keep b ob q n (fun z => hb (hs b z)) fun z => he (hx b z), fun _ _ q n _ he => u.any q n fun z => he (hx _ z), fun b ob q n he => u.free b ob q n fun z => he (hx b z), fun b ob q he => u.there b ob q fun z => he (hx b z), u.tups, u.frzs, u.tbls⟩
end

def trk (h : Heap) (H : Hp) : List Addr := (List.range h.objs.size).filter fun a => (H a).isSome
def hidT (h : Heap) (H : Hp) : Heap := PySem.W.hideAll h (trk h H)
theorem hidT_size (h : Heap) (H : Hp) : (hidT h H).objs.size = h.objs.size := PySem.W.hideAll_size _ _
theorem hidT_get {h : Heap} {H : Hp} {b : Addr} {o : Obj} (e : h.get? b = some o) (n : H b = none) : (hidT h H).get? b = some o :=
  PySem.W.hideAll_get _ e fun hm => by
    have q : (H b).isSome = true := (List.mem_filter.mp hm).2
    rw [n] at q; simp at q
theorem of_hidT {h : Heap} {H : Hp} {b : Addr} {o : Obj} (e : (hidT h H).get? b = some o) : h.get? b = some o ∧ H b = none := by
  have e' : h.get? b = some o := PySem.W.of_hideAll (trk h H) e
  refine ⟨e', ?_⟩
  cases q : H b with
  | none => rfl
  | some x =>
    have hm : b ∈ trk h H := List.mem_filter.mpr ⟨List.mem_range.mpr (Heap.lt_size e'), by simp [q]⟩
    have z : (hidT h H).get? b = none := PySem.W.hideAll_none (trk h H) hm
    rw [z] at e; cases e

def allNews (g h : Heap) (L : Addr) : List (Addr × Obj) := (List.range h.objs.size).filterMap fun a => if a = L ∨ (g.get? a).isSome = true then none else (h.get? a).map fun o => (a, o)
theorem mem_allNews {g h : Heap} {L a : Addr} {o : Obj} (h1 : a ≠ L) (h2 : g.get? a = none) (h3 : h.get? a = some o) : (a, o) ∈ allNews g h L :=
  List.mem_filterMap.mpr ⟨a, List.mem_range.mpr (Heap.lt_size h3), by simp [h1, h2, h3]⟩
theorem of_mem_allNews {g h : Heap} {L : Addr} {p : Addr × Obj} (hp : p ∈ allNews g h L) : p.1 ≠ L ∧ g.get? p.1 = none ∧ h.get? p.1 = some p.2 := by
  obtain ⟨b, _, e⟩ := List.mem_filterMap.mp hp
  split at e
  · cases e
  · rename_i hn
    cases q : h.get? b with
    | none => rw [q] at e; simp at e
    | some u =>
      rw [q] at e
      simp only [Option.map_some, Option.some.injEq] at e
      subst e
      refine ⟨fun z => hn (.inl z), ?_, q⟩
      show g.get? b = none
      cases r : g.get? b with
      | none => rfl
      | some v => exact (hn (.inr (by simp [r]))).elim
def rest (g h : Heap) (L d : Addr) : List (Addr × Obj) := (allNews g h L).filter fun p => decide (p.1 ≠ d)
theorem rest_ne {g h : Heap} {L d : Addr} : ∀ p ∈ rest g h L d, p.1 ≠ d := fun p hp => of_decide_eq_true (List.mem_filter.mp hp).2
theorem mem_rest {g h : Heap} {L d a : Addr} {o : Obj} (h1 : a ≠ L) (h2 : g.get? a = none) (h3 : h.get? a = some o) (h4 : a ≠ d) : (a, o) ∈ rest g h L d :=
  List.mem_filter.mpr ⟨mem_allNews h1 h2 h3, decide_eq_true h4⟩
theorem news_all {g h : Heap} {L : Addr} : News g L h (allNews g h L) := fun p hp => let ⟨a, b, c⟩ := of_mem_allNews hp; ⟨c, a, b⟩
/-- behind a rule that changed d alone: all else but the frame is kept -/
theorem kept_of_news {g h h' : Heap} {L d : Addr} {m : Str → Option Value} (k : ∀ b o, g.get? b = some o → h.get? b = some o) (F : Fr g L h' m) (N : News g L h' (rest g h L d)) :
    ∀ b o, b ≠ L → b ≠ d → h.get? b = some o → h'.get? b = some o := fun b o h1 h2 e => by
  cases q : g.get? b with
  | some u =>
    have := k b u q
    rw [e] at this; cases this
    exact F.keep b _ q
  | none => exact (N (b, o) (mem_rest h1 q e h2)).1
end L2

namespace L2
open PySem PySem.Spec PyProof.Rows

/-- the module's facts, over the base: the heap at the law's entry without what is tracked there -/
structure Mod (K : PySem.W.Frag) (mg : Str → Option Value) (base : Heap) : Prop where
  kin : K.In base
  glob : base.Ns mainGlobals mg
  blt : ∃ mb, base.Ns builtinsNs mb ∧ ∀ x : Str, x ≠ "__name__" → mb x = bootBuiltins x
  nolimit : base.NoLimit

/-- the context: a def's body (or a comprehension's block) running. base: fixed through the whole law; s₀, H₀: the entry; outer: the frames whose slots others may change (a def's callers); stack: all frames that run;
   ex: iterators that were made ahead of the entry and are walked here (a comprehension's); fn: the names whose cells were made at the entry (a def: all; a comprehension's block: its own); calm: not within an except suite; pn: pins that every state bears; xe: what is wanted of an exception that leaves the code -/
structure Cx where
  prog : Program
  w : World
  K : PySem.W.Frag
  mg : Str → Option Value
  base : Heap
  A : Around
  N : List Str
  s₀ : Shared
  H₀ : Hp
  env : Env
  outer : List Env
  stack : List Env
  ex : List Addr
  fn : Str → Bool
  calm : Bool
  pn : List (Addr × Obj)
  xe : Value → Shared → Prop
/-- the callers' frames -/
def frs (l : List Env) : List Addr := l.filterMap (·.frame)
abbrev Cx.fs (X : Cx) : List Addr := frs X.outer

def Vis (sc : Scope) (x : Str) : Prop := sc.names.lookup x = some .local ∨ sc.names.lookup x = some .cell ∨ sc.names.lookup x = some .free
def Loc (sc : Scope) (x : Str) : Prop := sc.names.lookup x = some .local ∨ sc.names.lookup x = some .cell
def Look (env : Env) (h : Heap) (m : Str → Option Value) (x : Str) (u : Value) : Prop :=
  (env.kindOf x = some .local ∧ m x = some u) ∨ ((env.kindOf x = some .cell ∨ env.kindOf x = some .free) ∧ ∃ c, env.cells.lookup x = some c ∧ h.IsCell c (some u))

structure Cx.Ok (X : Cx) : Prop where
  mod : Mod X.K X.mg X.base
  kind : X.env.scope.kind = .function
  glob : X.env.globals = mainGlobals
  blt : X.env.builtins = builtinsNs
  above : X.s₀.heap.objs.size ≤ X.env.locals
  inj : ∀ x y c, X.env.cells.lookup x = some c → X.env.cells.lookup y = some c → x = y
  has : ∀ x, (X.env.kindOf x = some .cell ∨ X.env.kindOf x = some .free) → ∃ c, X.env.cells.lookup x = some c
  cab : ∀ x c, X.fn x = true → X.env.cells.lookup x = some c → X.s₀.heap.objs.size ≤ c
  hd : X.calm = true → X.A.handled = none
  frames : X.A.frames = some X.stack
  stk : X.stack = X.outer ∨ (X.stack = X.env :: X.outer ∧ X.env.frame = some X.env.locals)
  exf : ∀ b ∈ X.ex, b ≠ X.env.locals ∧ ∀ x c, X.env.cells.lookup x = some c → c ≠ b
  bs : ∀ b o, X.base.get? b = some o → X.s₀.heap.get? b = some o ∧ X.H₀ b = none
  bsz : X.base.objs.size ≤ X.s₀.heap.objs.size
  noex : ∀ b o, X.base.get? b = some o → b ∉ X.ex
  exfs : ∀ b ∈ X.ex, b ∉ X.fs
  funs : X.s₀.heap.FunFrames X.base X.outer
  frf : ∀ b ∈ X.fs, X.H₀ b = none

structure Inv (X : Cx) (pins : List (Addr × Obj)) (σ : List (Option V)) (H : Hp) (s : Shared) : Prop where
  ok : X.Ok
  os : s.os = X.s₀.os
  bare : AllBare s.gens
  base : Un X.fs X.ex X.H₀ H X.s₀.heap s.heap
  loc : ∃ m, s.heap.Ns X.env.locals m ∧ ∀ (i : Nat) (x : Str) (v : V), X.N[i]? = some x → σ[i]? = some (some v) → Vis X.env.scope x → ∃ u, RelV v u ∧ Look X.env s.heap m x u
  cell : ∀ x c, X.env.cells.lookup x = some c → ∃ v, s.heap.IsCell c v
  free : H X.env.locals = none
  freeC : ∀ x c, X.env.cells.lookup x = some c → H c = none
  pin : ∀ p ∈ X.pn ++ pins, s.heap.get? p.1 = some p.2 ∧ H p.1 = none ∧ p.1 ≠ X.env.locals ∧ p.1 ∉ X.fs ∧ ∀ v, p.2.data ≠ .cell v
  hok : HOk X.prog X.w H s.heap
  len : σ.length = X.N.length

section
variable {X : Cx} {pins : List (Addr × Obj)} {σ : List (Option V)} {H H' : Hp} {s : Shared} {h' : Heap}

theorem Cx.Ok.nofr (ok : X.Ok) {b : Addr} {o : Obj} (e : X.base.get? b = some o) : b ∉ X.fs := fun hb => by
  have := (ok.funs.mem hb).1
  rw [e] at this; cases this
theorem Inv.bs (I : Inv X pins σ H s) : ∀ b o, X.base.get? b = some o → s.heap.get? b = some o ∧ H b = none := fun b o e =>
  ⟨I.base.keep b o (I.ok.bs b o e).1 (I.ok.bs b o e).2 (I.ok.nofr e) (I.ok.noex b o e), I.base.free b o (I.ok.bs b o e).1 (I.ok.bs b o e).2 (I.ok.noex b o e)⟩
theorem Inv.bk (I : Inv X pins σ H s) : ∀ b o, X.base.get? b = some o → s.heap.get? b = some o := fun b o e => (I.bs b o e).1
theorem Inv.mod (I : Inv X pins σ H s) : Mod X.K X.mg X.base := I.ok.mod
theorem Inv.kIn (I : Inv X pins σ H s) : X.K.In s.heap := I.ok.mod.kin.keeps I.bk
theorem Inv.nolimit (I : Inv X pins σ H s) : s.heap.NoLimit := I.ok.mod.nolimit.keeps I.bk
/-- the frame over the base: for OpenK's rules (K.In X.base is I.mod.kin) -/
theorem Inv.fr (I : Inv X pins σ H s) : ∃ m, Fr X.base X.env.locals s.heap m :=
  let ⟨m, hn, _⟩ := I.loc
  ⟨m, hn, I.bk, Nat.le_trans I.ok.bsz I.ok.above⟩
theorem Inv.lt (I : Inv X pins σ H s) : X.env.locals < s.heap.objs.size := let ⟨_, hn, _⟩ := I.loc; hn.lt
theorem Inv.sz (I : Inv X pins σ H s) : X.s₀.heap.objs.size ≤ s.heap.objs.size := Nat.le_trans I.ok.above (Nat.le_of_lt I.lt)
theorem Inv.nofs (I : Inv X pins σ H s) {a : Addr} (h : s.heap.objs.size ≤ a) : a ∉ X.fs := fun hb => by
  obtain ⟨_, o, ho, _⟩ := I.ok.funs.mem hb
  exact absurd (Nat.lt_of_lt_of_le (Heap.lt_size ho) (Nat.le_trans I.sz h)) (Nat.lt_irrefl _)
theorem Inv.cne (I : Inv X pins σ H s) : ∀ x c, X.env.cells.lookup x = some c → c ≠ X.env.locals := fun x c e z => by
  obtain ⟨v, o, ho, hd⟩ := I.cell x c e
  obtain ⟨m, ⟨o', es, ep, ho', hd', _⟩, _⟩ := I.loc
  rw [z, ho'] at ho; cases ho; rw [hd'] at hd; cases hd
theorem Inv.funs (I : Inv X pins σ H s) : s.heap.FunFrames X.base X.outer := by
  have all : ∀ (l : List Env), (∀ b ∈ frs l, b ∈ X.fs) → X.s₀.heap.FunFrames X.base l → s.heap.FunFrames X.base l := by
    intro l
    induction l with
    | nil => intro _ _; trivial
    | cons env r ih =>
      intro hs hl
      obtain ⟨hk, ⟨L, o, hf, hn, ho, hd⟩, hr⟩ := hl
      have hL : L ∈ X.fs := hs L (by unfold frs; rw [List.filterMap_cons, hf]; exact List.mem_cons_self)
      obtain ⟨sl, e⟩ := I.base.slot L o ho (I.ok.frf L hL) hL fun z => I.ok.exfs L z hL
      exact ⟨hk, ⟨L, _, hf, hn, e, hd⟩, ih (fun b hb => hs b (by unfold frs; rw [List.filterMap_cons, hf]; exact List.mem_cons_of_mem _ hb)) hr⟩
  exact all X.outer (fun _ hb => hb) I.ok.funs

/-- the frames that run, for a call -/
theorem Inv.stack (I : Inv X pins σ H s) : s.heap.FunFrames X.base X.stack := by
  rcases I.ok.stk with e | ⟨e, hf⟩
  · rw [e]; exact I.funs
  · rw [e]
    obtain ⟨m, hn, _⟩ := I.loc
    refine .cons (by rw [I.ok.kind]; decide) hf hn ?_ I.funs
    exact Heap.get?_none_of_le (Nat.le_trans I.ok.bsz I.ok.above)
theorem Inv.stkSub (I : Inv X pins σ H s) : ∀ b ∈ frs X.stack, b ∈ X.env.locals :: X.fs := fun b hb => by
  rcases I.ok.stk with e | ⟨e, hf⟩
  · rw [e] at hb; exact List.mem_cons_of_mem _ hb
  · rw [e] at hb
    unfold frs at hb
    rw [List.filterMap_cons, hf] at hb
    exact hb
theorem Inv.stkFree (I : Inv X pins σ H s) : ∀ b ∈ frs X.stack, H b = none := fun b hb => by
  rcases List.mem_cons.mp (I.stkSub b hb) with e | hb
  · rw [e]; exact I.free
  · obtain ⟨_, o, ho, _⟩ := I.ok.funs.mem hb
    exact I.base.free b o ho (I.ok.frf b hb) fun z => I.ok.exfs b z hb

/-- THE STEP: the untracked objects but the frame and the records at ch are kept (the callers' frames up to slots), the frame's map is kept, the new abstract heap is held -/
theorem Inv.step {g' : Array GenState} {t' : Nat} {d' : Drawn} {ch : List Addr} (I : Inv X pins σ H s)
    (hch : ∀ b ∈ ch, (b ∈ X.ex ∨ X.s₀.heap.objs.size ≤ b) ∧ b ≠ X.env.locals ∧ (∀ x c, X.env.cells.lookup x = some c → c ≠ b) ∧ ∀ p ∈ X.pn ++ pins, p.1 ≠ b)
    (keep : ∀ b o, b ≠ X.env.locals → b ∉ X.fs → b ∉ ch → s.heap.get? b = some o → H b = none → h'.get? b = some o)
    (slot : ∀ b o, b ≠ X.env.locals → b ∈ X.fs → b ∉ ch → s.heap.get? b = some o → H b = none → ∃ sl, h'.get? b = some { o with slots := sl }) (free : ∀ b o, b ∉ ch → s.heap.get? b = some o → H b = none → H' b = none)
    (there : ∀ b o, b ∉ ch → s.heap.get? b = some o → ∃ o', h'.get? b = some o')
    (tups : ∀ b xs, H b = some (.tup xs) → H' b = some (.tup xs)) (frzs : ∀ b o u, H b = some (.frz o u) → H' b = some (.frz o u)) (tbls : ∀ b lp qn, H b = some (.tbl lp qn) → H' b = some (.tbl lp qn))
    (ns : ∀ m, s.heap.Ns X.env.locals m → h'.Ns X.env.locals m) (hok : HOk X.prog X.w H' h') (hg : AllBare g') :
    Inv X pins σ H' { s with heap := h', gens := g', drawn := d', toks := t' } := by
  have neL : ∀ b o, X.s₀.heap.get? b = some o → b ≠ X.env.locals := fun b o e => Nat.ne_of_lt (Nat.lt_of_lt_of_le (Heap.lt_size e) I.ok.above)
  have neC : ∀ b o, X.s₀.heap.get? b = some o → b ∉ X.ex → b ∉ ch := fun b o e hx hb => by
    rcases (hch b hb).1 with z | z
    · exact hx z
    · exact absurd (Nat.lt_of_lt_of_le (Heap.lt_size e) z) (Nat.lt_irrefl _)
  have cellK : ∀ x c, X.env.cells.lookup x = some c → ∀ v, s.heap.IsCell c v → h'.IsCell c v := fun x c e v ⟨o, ho, hd⟩ => by
    have nch : c ∉ ch := fun z => (hch c z).2.2.1 x c e rfl
    by_cases hc : c ∈ X.fs
    · obtain ⟨sl, q⟩ := slot c o (I.cne x c e) hc nch ho (I.freeC x c e)
      exact ⟨_, q, hd⟩
    · exact ⟨o, keep c o (I.cne x c e) hc nch ho (I.freeC x c e), hd⟩
  refine ⟨I.ok, I.os, hg, ⟨fun b o e n hb hx => ?_, fun b o e n hb hx => ?_, fun b o e n hx => ?_, fun b o e hx => ?_, fun b xs e => tups b xs (I.base.tups b xs e), fun b o xs e => frzs b o xs (I.base.frzs b o xs e), fun b lp qn e => tbls b lp qn (I.base.tbls b lp qn e)⟩, ?_, fun x c e => ?_, ?_, fun x c e => ?_, fun p hp => ?_, hok, I.len⟩
  · exact keep b o (neL b o e) hb (neC b o e hx) (I.base.keep b o e n hb hx) (I.base.free b o e n hx)
  · obtain ⟨sl, e1⟩ := I.base.slot b o e n hb hx
    obtain ⟨sl', e2⟩ := slot b _ (neL b o e) hb (neC b o e hx) e1 (I.base.free b o e n hx)
    exact ⟨sl', e2⟩
  · obtain ⟨o', e1⟩ := I.base.there b o e hx
    exact free b o' (neC b o e hx) e1 (I.base.free b o e n hx)
  · obtain ⟨o', e1⟩ := I.base.there b o e hx
    exact there b o' (neC b o e hx) e1
  · obtain ⟨m, hn, hl⟩ := I.loc
    refine ⟨m, ns m hn, fun i x v e1 e2 e3 => ?_⟩
    obtain ⟨u, r, l⟩ := hl i x v e1 e2 e3
    refine ⟨u, r, ?_⟩
    rcases l with l | ⟨k, c, e, z⟩
    · exact .inl l
    · exact .inr ⟨k, c, e, cellK x c e _ z⟩
  · obtain ⟨v, z⟩ := I.cell x c e
    exact ⟨v, cellK x c e v z⟩
  · obtain ⟨m, ⟨o, _, _, ho, _⟩, _⟩ := I.loc
    exact free _ o (fun z => (hch _ z).2.1 rfl) ho I.free
  · obtain ⟨v, o, ho, hd⟩ := I.cell x c e
    exact free c o (fun z => (hch c z).2.2.1 x c e rfl) ho (I.freeC x c e)
  · obtain ⟨e, n, ne, nf, d⟩ := I.pin p hp
    have nch : p.1 ∉ ch := fun z => (hch p.1 z).2.2.2 p hp rfl
    exact ⟨keep p.1 p.2 ne nf nch e n, free p.1 p.2 nch e n, ne, nf, d⟩
/-- .. where the frame's own object is kept too -/
theorem Inv.un {t' : Nat} (I : Inv X pins σ H s) (u : Un X.fs [] H H' s.heap h') (hok : HOk X.prog X.w H' h') : Inv X pins σ H' { s with heap := h', toks := t' } := by
  obtain ⟨m, ⟨o, es, ep, ho, r⟩, _⟩ := id I.loc
  obtain ⟨sl, hL⟩ := u.any ho I.free (by simp)
  exact I.step (g' := s.gens) (d' := s.drawn) (ch := []) (fun _ z => nomatch z) (fun b o _ hb _ e n => u.keep b o e n hb (by simp)) (fun b o _ hb _ e n => u.slot b o e n hb (by simp)) (fun b o _ e n => u.free b o e n (by simp)) (fun b o _ e => u.there b o e (by simp)) u.tups u.frzs u.tbls (fun m' hm => by
    obtain ⟨o', es', ep', ho', r'⟩ := hm
    rw [ho] at ho'; cases ho'
    exact ⟨_, es', ep', hL, r'⟩) hok I.bare
/-- behind a call (or a comprehension's block): the slots of this frame may have changed too, the records at ch may have turned -/
theorem Inv.call {g' : Array GenState} {t' : Nat} {d' : Drawn} {ch : List Addr} (I : Inv X pins σ H s) (u : Un (frs X.stack) ch H H' s.heap h') (hok : HOk X.prog X.w H' h') (hg : AllBare g')
    (hch : ∀ b ∈ ch, (b ∈ X.ex ∨ X.s₀.heap.objs.size ≤ b) ∧ b ≠ X.env.locals ∧ (∀ x c, X.env.cells.lookup x = some c → c ≠ b) ∧ ∀ p ∈ X.pn ++ pins, p.1 ≠ b) :
    Inv X pins σ H' { s with heap := h', gens := g', drawn := d', toks := t' } := by
  obtain ⟨m, ⟨o, es, ep, ho, r⟩, _⟩ := id I.loc
  obtain ⟨sl, hL⟩ := u.any ho I.free fun z => (hch _ z).2.1 rfl
  exact I.step (ch := ch) hch (fun b o hL hb hc e n => u.keep b o e n (fun z => (List.mem_cons.mp (I.stkSub b z)).elim hL hb) hc) (fun b o _ _ hc e n => u.any e n hc) (fun b o hc e n => u.free b o e n hc) (fun b o hc e => u.there b o e hc) u.tups u.frzs u.tbls (fun m' hm => by
    obtain ⟨o', es', ep', ho', r'⟩ := hm
    rw [ho] at ho'; cases ho'
    exact ⟨_, es', ep', hL, r'⟩) hok hg
/-- an untracked record of ours (an iterator) has turned -/
theorem Inv.turned {t' : Nat} {it : Addr} (I : Inv X pins σ H s) (k : ∀ b o, b ≠ it → s.heap.get? b = some o → h'.get? b = some o) (hn : H it = none) (hL : it ≠ X.env.locals)
    (h1 : it ∈ X.ex ∨ X.s₀.heap.objs.size ≤ it) (h2 : ∀ x c, X.env.cells.lookup x = some c → c ≠ it) (h3 : ∀ p ∈ X.pn ++ pins, p.1 ≠ it) : Inv X pins σ H { s with heap := h', toks := t' } := by
  have nit : ∀ b u, H b = some u → b ≠ it := fun b u e z => by rw [z, hn] at e; cases e
  refine I.step (g' := s.gens) (d' := s.drawn) (ch := [it]) (fun b hb => ?_) (fun b o _ _ hc e _ => k b o (fun z => hc (by simp [z])) e) (fun b o _ _ hc e _ => ⟨o.slots, k b o (fun z => hc (by simp [z])) e⟩) (fun _ _ _ _ n => n)
    (fun b o hc e => ⟨o, k b o (fun z => hc (by simp [z])) e⟩) (fun _ _ e => e) (fun _ _ _ e => e) (fun _ _ _ e => e) (fun m hm => ?_) (fun b u e => ?_) I.bare
  · have e : b = it := by simpa using hb
    subst e
    exact ⟨h1, hL, h2, h3⟩
  · obtain ⟨o, es, ep, ho, r⟩ := hm
    exact ⟨o, es, ep, k _ o (Ne.symm hL) ho, r⟩
  · refine (I.hok b u e).stay (fun c v hc q => k c v ?_ q) (fun _ q => q) fun _ _ q => q
    rcases hc with z | z
    · rw [z]; exact nit b u e
    · exact nit c _ z
theorem Inv.tok (I : Inv X pins σ H s) (t : Nat) : Inv X pins σ H { s with toks := t } := I.un (h' := s.heap) (t' := t) Un.refl I.hok
/-- all objects kept -/
theorem Inv.kept {t' : Nat} (I : Inv X pins σ H s) (k : ∀ b u, s.heap.get? b = some u → h'.get? b = some u) : Inv X pins σ H { s with heap := h', toks := t' } := I.un (Un.kept k) (I.hok.kept k)
/-- a new object laid and tracked -/
theorem Inv.laid {a : Addr} {o : HO} {t' : Nat} (I : Inv X pins σ H s) (k : ∀ b u, s.heap.get? b = some u → h'.get? b = some u) (hp : s.heap.objs.size ≤ a) (new : ObjOk X.prog X.w (upd H a o) h' a o) :
    Inv X pins σ (upd H a o) { s with heap := h', toks := t' } := I.un (Un.laid k hp (I.hok.fresh hp)) (I.hok.laid k hp new)
/-- an object written -/
theorem Inv.write {x e : Addr} {o : HO} {t' : Nat} (I : Inv X pins σ H s) (mu : Mut (H x)) (he : e = x ∨ H e = some (.own x)) (k : ∀ b u, b ≠ e → s.heap.get? b = some u → h'.get? b = some u) (heo : ∃ u, h'.get? e = some u)
    (new : ObjOk X.prog X.w (upd H x o) h' x o) : Inv X pins σ (upd H x o) { s with heap := h', toks := t' } := I.un (Un.write mu he k heo) (I.hok.write mu he k heo new)
theorem Inv.pins_of {pins' : List (Addr × Obj)} (I : Inv X pins σ H s) (h : ∀ p ∈ pins', s.heap.get? p.1 = some p.2 ∧ H p.1 = none ∧ p.1 ≠ X.env.locals ∧ p.1 ∉ X.fs ∧ ∀ v, p.2.data ≠ .cell v) : Inv X pins' σ H s :=
  ⟨I.ok, I.os, I.bare, I.base, I.loc, I.cell, I.free, I.freeC, fun p hp => (List.mem_append.mp hp).elim (fun z => I.pin p (List.mem_append_left _ z)) (h p), I.hok, I.len⟩

theorem nodup_ix {N : List Str} (hN : N.Nodup) {i j : Nat} {x : Str} (a : N[i]? = some x) (b : N[j]? = some x) : i = j := by
  obtain ⟨h1, e1⟩ := List.getElem?_eq_some_iff.mp a
  obtain ⟨h2, e2⟩ := List.getElem?_eq_some_iff.mp b
  exact (List.getElem_inj hN).mp (e1.trans e2.symm)

/-- a name is stored; what changed -/
theorem store_ok2 {M : Model} {A : Around} {E : Value → Shared → Prop} {i : Nat} {x : Str} {v : V} {u : Value} {Q : Unit → Shared → Prop} (I : Inv X pins σ H s) (hN : X.N.Nodup) (hi : X.N[i]? = some x) (hx : Loc X.env.scope x) (r : RelV v u)
    (h : ∀ s', Inv X pins (σ.set i (some v)) H s' → (∃ a, Heap.SameBut a s.heap s'.heap ∧ (a = X.env.locals ∨ X.env.cells.lookup x = some a)) → Q () s') (hf : X.fn x = true ∨ X.env.scope.names.lookup x = some .local := by first | exact .inl rfl | exact .inr rfl | assumption) : wpAny M A (storeName X.env x u) Q E s := by
  obtain ⟨m, hn, hl⟩ := id I.loc
  have hcls : (X.env.scope.kind == .class || (X.env.scope.kind == .module && X.env.locals != X.env.globals)) = false := by rw [I.ok.kind]; rfl
  have hiσ : i < σ.length := by rw [I.len]; exact (List.getElem?_eq_some_iff.mp hi).1
  have cne := I.cne
  have tracked : ∀ {a : Addr} {h' : Heap}, (∃ o, s.heap.get? a = some o ∧ H a = none) → Heap.SameBut a s.heap h' → HOk X.prog X.w H h' := fun {a h'} ha hs b ob e => by
    obtain ⟨_, _, hfree⟩ := ha
    refine (I.hok b ob e).stay (fun c w' hc q => (hs.2 c ?_).trans q) (fun _ q => q) fun _ _ q => q
    rintro rfl
    rcases hc with rfl | hc
    · rw [hfree] at e; cases e
    · rw [hfree] at hc; cases hc
  rcases hx with hk | hk
  · refine wpAny_storeName_local hk hn (fun h' hn' hs => ?_) hcls
    obtain ⟨oL, _, _, hoL, _⟩ := id hn
    refine h _ ⟨I.ok, I.os, I.bare, ⟨fun b o e n hb hx => ?_, fun b o e n hb hx => ?_, I.base.free, fun b o e hx => ?_, I.base.tups, I.base.frzs, I.base.tbls⟩, ⟨_, hn', fun j y v' e1 e2 e3 => ?_⟩, fun y c e => ?_, I.free, I.freeC, fun p hp => ?_, tracked ⟨oL, hoL, I.free⟩ hs, by simpa using I.len⟩ ⟨_, hs, .inl rfl⟩
    · exact (hs.2 b (Nat.ne_of_lt (Nat.lt_of_lt_of_le (Heap.lt_size e) I.ok.above))).trans (I.base.keep b o e n hb hx)
    · obtain ⟨sl, e1⟩ := I.base.slot b o e n hb hx
      exact ⟨sl, (hs.2 b (Nat.ne_of_lt (Nat.lt_of_lt_of_le (Heap.lt_size e) I.ok.above))).trans e1⟩
    · obtain ⟨o', e1⟩ := I.base.there b o e hx
      exact ⟨o', (hs.2 b (Nat.ne_of_lt (Nat.lt_of_lt_of_le (Heap.lt_size e) I.ok.above))).trans e1⟩
    · by_cases hj : j = i
      · subst hj
        rw [hi] at e1; cases e1
        rw [List.getElem?_set_self hiσ] at e2
        cases e2
        exact ⟨u, r, .inl ⟨hk, by simp⟩⟩
      · rw [List.getElem?_set_ne (Ne.symm hj)] at e2
        obtain ⟨u', r', q⟩ := hl j y v' e1 e2 e3
        refine ⟨u', r', ?_⟩
        rcases q with ⟨k, e⟩ | ⟨k, c, e, z⟩
        · refine .inl ⟨k, ?_⟩
          have : y ≠ x := fun e => hj (nodup_ix hN e1 (e ▸ hi))
          simp [this, e]
        · exact .inr ⟨k, c, e, z.sameBut hs (cne y c e)⟩
    · obtain ⟨w', z⟩ := I.cell y c e
      exact ⟨w', z.sameBut hs (cne y c e)⟩
    · obtain ⟨e, n, ne, nf, d⟩ := I.pin p hp
      exact ⟨(hs.2 p.1 ne).trans e, n, ne, nf, d⟩
  · have hfn : X.fn x = true := by
      rcases hf with z | z
      · exact z
      · rw [z] at hk; cases hk
    obtain ⟨c, hc⟩ := I.ok.has x (.inl hk)
    obtain ⟨w', z⟩ := I.cell x c hc
    refine wpAny_storeName_cell I.ok.kind hk hc z (fun h' hc' hs => ?_)
    obtain ⟨oc, hoc, hocd⟩ := id z
    refine h { s with heap := h' } ⟨I.ok, I.os, I.bare, ⟨fun b o e n hb hx => ?_, fun b o e n hb hx => ?_, I.base.free, fun b o e hx => ?_, I.base.tups, I.base.frzs, I.base.tbls⟩, ⟨m, hn.sameBut hs (Ne.symm (cne x c hc)), fun j y v' e1 e2 e3 => ?_⟩, fun y c' e => ?_, I.free, I.freeC, fun p hp => ?_, tracked ⟨oc, hoc, I.freeC x c hc⟩ hs, by simpa using I.len⟩ ⟨c, hs, .inr hc⟩
    · exact (hs.2 b (Nat.ne_of_lt (Nat.lt_of_lt_of_le (Heap.lt_size e) (I.ok.cab x c hfn hc)))).trans (I.base.keep b o e n hb hx)
    · obtain ⟨sl, e1⟩ := I.base.slot b o e n hb hx
      exact ⟨sl, (hs.2 b (Nat.ne_of_lt (Nat.lt_of_lt_of_le (Heap.lt_size e) (I.ok.cab x c hfn hc)))).trans e1⟩
    · obtain ⟨o', e1⟩ := I.base.there b o e hx
      exact ⟨o', (hs.2 b (Nat.ne_of_lt (Nat.lt_of_lt_of_le (Heap.lt_size e) (I.ok.cab x c hfn hc)))).trans e1⟩
    · by_cases hj : j = i
      · subst hj
        rw [hi] at e1; cases e1
        rw [List.getElem?_set_self hiσ] at e2
        cases e2
        exact ⟨u, r, .inr ⟨.inl hk, c, hc, hc'⟩⟩
      · rw [List.getElem?_set_ne (Ne.symm hj)] at e2
        obtain ⟨u', r', q⟩ := hl j y v' e1 e2 e3
        refine ⟨u', r', ?_⟩
        rcases q with q | ⟨k, c', e, z'⟩
        · exact .inl q
        · refine .inr ⟨k, c', e, z'.sameBut hs ?_⟩
          rintro rfl
          exact hj (nodup_ix hN e1 (I.ok.inj _ _ _ e hc ▸ hi))
    · by_cases hcc : c' = c
      · subst hcc; exact ⟨_, hc'⟩
      · obtain ⟨w2, z2⟩ := I.cell y c' e
        exact ⟨w2, z2.sameBut hs hcc⟩
    · obtain ⟨e, n, ne, nf, d⟩ := I.pin p hp
      refine ⟨(hs.2 p.1 ?_).trans e, n, ne, nf, d⟩
      intro q
      rw [q, hoc] at e
      have q' : oc = p.2 := Option.some.inj e
      exact d w' (by rw [← q']; exact hocd)
theorem store_ok {M : Model} {A : Around} {E : Value → Shared → Prop} {i : Nat} {x : Str} {v : V} {u : Value} {Q : Unit → Shared → Prop} (I : Inv X pins σ H s) (hN : X.N.Nodup) (hi : X.N[i]? = some x) (hx : Loc X.env.scope x) (r : RelV v u)
    (h : ∀ s', Inv X pins (σ.set i (some v)) H s' → Q () s') (hf : X.fn x = true ∨ X.env.scope.names.lookup x = some .local := by first | exact .inl rfl | exact .inr rfl | assumption) : wpAny M A (storeName X.env x u) Q E s :=
  store_ok2 I hN hi hx r (fun s' I' _ => h s' I') hf
/-- behind a call or a block, the state as it is -/
theorem Inv.call' {s' : Shared} {ch : List Addr} (I : Inv X pins σ H s) (ho : s'.os = s.os) (u : Un (frs X.stack) ch H H' s.heap s'.heap) (hok : HOk X.prog X.w H' s'.heap) (hg : AllBare s'.gens)
    (hch : ∀ b ∈ ch, (b ∈ X.ex ∨ X.s₀.heap.objs.size ≤ b) ∧ b ≠ X.env.locals ∧ (∀ x c, X.env.cells.lookup x = some c → c ≠ b) ∧ ∀ p ∈ X.pn ++ pins, p.1 ≠ b) : Inv X pins σ H' s' := by
  obtain ⟨h', g', d', t', o'⟩ := s'
  have e : o' = s.os := ho
  subst e
  exact I.call (g' := g') (t' := t') (d' := d') u hok hg hch
end

/-- an exception: its class, its own dict's address (where it has one), the abstract heap behind it -/
abbrev XK := Value → Option Addr → Hp → Prop
abbrev St := List (Option V)
abbrev VK := V → Hp → Prop
/-- an expression's reading; a test's; an argument list's -/
abbrev TE := St → Hp → VK → Prop
abbrev TT := St → Hp → (Bool → Hp → Prop) → Prop
abbrev TA := St → Hp → (List V → Hp → Prop) → Prop
/-- what is wanted behind a statement -/
structure Ends where
  nx : St → Hp → Prop
  rt : VK
  bk : St → Hp → Prop := fun _ _ => False
  ct : St → Hp → Prop := fun _ _ => False
abbrev TS := Ends → St → Hp → Prop

def EP (X : Cx) (pins : List (Addr × Obj)) (σ : St) (Q : VK) (u : Value) (s' : Shared) : Prop := ∃ v H', Inv X pins σ H' s' ∧ RelV v u ∧ Q v H'
def TP (X : Cx) (pins : List (Addr × Obj)) (σ : St) (Q : Bool → Hp → Prop) (b : Bool) (s' : Shared) : Prop := ∃ H', Inv X pins σ H' s' ∧ Q b H'
def AP (X : Cx) (pins : List (Addr × Obj)) (σ : St) (Q : List V → Hp → Prop) (us : List Value) (s' : Shared) : Prop := ∃ vs H', Inv X pins σ H' s' ∧ Vals vs us ∧ Q vs H'
def SP (X : Cx) (pins : List (Addr × Obj)) (D : Ends) (f : Flow) (s' : Shared) : Prop :=
  match f with
  | .next => ∃ σ' H', Inv X pins σ' H' s' ∧ D.nx σ' H'
  | .brk => ∃ σ' H', Inv X pins σ' H' s' ∧ D.bk σ' H'
  | .cont => ∃ σ' H', Inv X pins σ' H' s' ∧ D.ct σ' H'
  | .ret u => ∃ v σ' H', Inv X pins σ' H' s' ∧ RelV v u ∧ D.rt v H'

def PE (X : Cx) (e : Expr) (t : TE) : Prop :=
  ∀ (pins : List (Addr × Obj)) (s : Shared) (σ : St) (H : Hp) (Q : VK), Inv X pins σ H s → t σ H Q → wpAny (model X.prog X.w) X.A (eval e X.env) (EP X pins σ Q) X.xe s
def PT (X : Cx) (e : Expr) (t : TT) : Prop :=
  ∀ (pins : List (Addr × Obj)) (s : Shared) (σ : St) (H : Hp) (Q : Bool → Hp → Prop), Inv X pins σ H s → t σ H Q → wpAny (model X.prog X.w) X.A (isTrue e X.env (eval e X.env)) (TP X pins σ Q) X.xe s
/-- a test whatever its 'whole' is (and, or) -/
def PW (X : Cx) (e : Expr) (t : TT) : Prop :=
  ∀ (whole : Sem Value) (pins : List (Addr × Obj)) (s : Shared) (σ : St) (H : Hp) (Q : Bool → Hp → Prop), Inv X pins σ H s → t σ H Q → wpAny (model X.prog X.w) X.A (isTrue e X.env whole) (TP X pins σ Q) X.xe s
theorem PW.pt {X : Cx} {e : Expr} {t : TT} (h : PW X e t) : PT X e t := h _
/-- an argument list (no star), from the left -/
def PA (X : Cx) (es : List Expr) (t : TA) : Prop :=
  ∀ (pos : Pos) (pins : List (Addr × Obj)) (s : Shared) (σ : St) (H : Hp) (Q : List V → Hp → Prop), Inv X pins σ H s → t σ H Q → wpAny (model X.prog X.w) X.A (spliced (backTo pos (starEach es X.env))) (AP X pins σ Q) X.xe s
def PS (X : Cx) (st : Stmt) (t : TS) : Prop :=
  ∀ (pins : List (Addr × Obj)) (s : Shared) (σ : St) (H : Hp) (D : Ends), Inv X pins σ H s → t D σ H → wpAny (model X.prog X.w) X.A (exec st X.env) (SP X pins D) X.xe s
def PSs (X : Cx) (st : List Stmt) (t : TS) : Prop :=
  ∀ (pins : List (Addr × Obj)) (s : Shared) (σ : St) (H : Hp) (D : Ends), Inv X pins σ H s → t D σ H → wpAny (model X.prog X.w) X.A (execs st X.env) (SP X pins D) X.xe s
/-- weaken the end -/
theorem thn {α : Type} {t : Sem α} {Q Q' : α → Shared → Prop} {M : Model} {A : Around} {E : Value → Shared → Prop} {s : Shared} (h : wpAny M A t Q E s) (hQ : ∀ a s, Q a s → Q' a s) : wpAny M A t Q' E s := wpAny_mono h hQ fun _ _ x => x
end L2

namespace L2
open PySem PySem.Spec PyProof.Rows
section
variable {X : Cx}

def tVar (i : Nat) : TE := fun σ H Q => ∃ v, σ[i]? = some (some v) ∧ Q v H
def tC (v : V) : TE := fun _ H Q => Q v H
theorem pe_var {i : Nat} {x : Str} {pos : Pos} (hN : X.N[i]? = some x) (hv : Vis X.env.scope x) (hd : (x == ("__debug__" : Str)) = false := by decide) (hcd : (x == ("__classdict__" : Str)) = false := by decide) : PE X (.Name x pos) (tVar i) := by
  intro pins s σ H Q I h
  obtain ⟨v, e, h⟩ := h
  obtain ⟨m, hn, hl⟩ := I.loc
  obtain ⟨u, r, l⟩ := hl i x v hN e hv
  have fin : EP X pins σ Q u s := ⟨v, H, I, r, h⟩
  rcases l with ⟨hk, hm⟩ | ⟨hk, c, hc, hcell⟩
  · exact wpAny_Name (wpAny_loadName_local I.ok.kind hk hn hm fin) hd
  · rcases hk with hk | hk
    · exact wpAny_Name (wpAny_loadName_cell I.ok.kind hk hc hcell fin) hd
    · exact wpAny_Name (wpAny_loadName_free I.ok.kind hk hc hcell fin hcd) hd
theorem pe_int {i j pos} : PE X (.Constant (.int i) j pos) (tC (.int i)) := fun _ _ _ H _ I h => wpAny_Constant_int ⟨.int i, H, I.tok _, ⟨_, rfl⟩, h⟩
theorem pe_bl {b j pos} : PE X (.Constant (.bool b) j pos) (tC (.bl b)) := fun _ _ _ H _ I h => Constant_bool ⟨.bl b, H, I, rfl, h⟩
theorem pe_non {j pos} : PE X (.Constant .none j pos) (tC .non) := fun _ _ _ H _ I h => Constant_none ⟨.non, H, I, rfl, h⟩
theorem pe_str {x j pos} : PE X (.Constant (.str x) j pos) (tC (.str x)) := fun _ _ _ H _ I h => Calls.Constant_str ⟨.str x, H, I.tok _, ⟨_, rfl⟩, h⟩

/-- a global name of the def -/
def Gl (X : Cx) (x : Str) : Prop := X.env.kindOf x = some .globalImplicit
theorem ld_glob {E : Value → Shared → Prop} {pins : List (Addr × Obj)} {s : Shared} {σ : St} {H : Hp} {x : Str} {u : Value} {pos : Pos} {Q : Value → Shared → Prop} (I : Inv X pins σ H s) (hg : Gl X x) (hm : X.mg x = some u) (h : Q u s)
    (hd : (x == ("__debug__" : Str)) = false := by decide) : wpAny (model X.prog X.w) X.A (eval (.Name x pos) X.env) Q E s :=
  Calls.Name_function_global I.ok.kind hg (Calls.loadGlobal_global (by rw [I.ok.glob]; exact I.mod.glob.keeps I.bk) hm h) hd
theorem ld_blt {E : Value → Shared → Prop} {pins : List (Addr × Obj)} {s : Shared} {σ : St} {H : Hp} {x : Str} {u : Value} {pos : Pos} {Q : Value → Shared → Prop} (I : Inv X pins σ H s) (hg : Gl X x) (hm : X.mg x = none) (hv : bootBuiltins x = some u) (h : Q u s)
    (hn : x ≠ "__name__" := by decide) (hd : (x == ("__debug__" : Str)) = false := by decide) : wpAny (model X.prog X.w) X.A (eval (.Name x pos) X.env) Q E s := by
  obtain ⟨mb, h1, h2⟩ := I.mod.blt
  exact Calls.Name_function_global I.ok.kind hg (Calls.loadGlobal_builtin (by rw [I.ok.glob]; exact I.mod.glob.keeps I.bk) hm (by rw [I.ok.blt]; exact h1.keeps I.bk) ((h2 x hn).trans hv) h) hd
/-- a module's constant, a class, a function, as a value -/
theorem pe_glob {x : Str} {v : V} {u : Value} {pos : Pos} (hg : Gl X x) (hm : X.mg x = some u) (r : RelV v u) (hd : (x == ("__debug__" : Str)) = false := by decide) : PE X (.Name x pos) (tC v) :=
  fun _ _ _ H _ I h => ld_glob I hg hm ⟨v, H, I, r, h⟩ hd
theorem pe_bltn {x : Str} {v : V} {u : Value} {pos : Pos} (hg : Gl X x) (hm : X.mg x = none) (hv : bootBuiltins x = some u) (r : RelV v u) (hn : x ≠ "__name__" := by decide) (hd : (x == ("__debug__" : Str)) = false := by decide) : PE X (.Name x pos) (tC v) :=
  fun _ _ _ H _ I h => ld_blt I hg hm hv ⟨v, H, I, r, h⟩ hn hd

variable {a b : Expr} {ta tb : TE} {pos : Pos}
/-- a comparison as a value, as a test -/
def tB (t : TE) : TT := fun σ H Q => t σ H fun x H1 => ∃ c, x = .bl c ∧ Q c H1
/-- an expression whose value is a bool, as a test -/
theorem pt_val {e : Expr} {t : TE} (h : PE X e t) (he : ∀ whole, isTrue e X.env whole = (do let v ← whole; standAt e.pos; holding [v] (truthy v)) := by intro _; rfl) : PT X e (tB t) := by
  intro pins s σ H Q I hw
  refine isTrue_plain (thn (h pins s σ H _ I hw) fun v s1 ⟨x, H1, I1, r1, q1⟩ => ?_) (he _)
  obtain ⟨d, rfl, q⟩ := q1
  cases r1
  exact wpAny_truthy_bool ⟨H1, I1, q⟩

variable {tA tB' : TT} {rest : List Expr}
def tAnd (t u : TT) : TT := fun σ H Q => t σ H fun c H1 => if c = true then u σ H1 Q else Q false H1
def tOr (t u : TT) : TT := fun σ H Q => t σ H fun c H1 => if c = true then Q true H1 else u σ H1 Q
def tNot (t : TT) : TT := fun σ H Q => t σ H fun c H1 => Q (!c) H1
theorem pw_and1 (ha : PT X a tA) : PW X (.BoolOp .And [a] pos) tA := by
  intro wh pins s σ H Q I h
  refine isTrue_and (thn (ha pins s σ H Q I h) fun c s1 e => ?_)
  cases c with
  | true => exact isTrue_and_nil e
  | false => exact e
theorem pw_or1 (ha : PT X a tA) : PW X (.BoolOp .Or [a] pos) tA := by
  intro wh pins s σ H Q I h
  refine isTrue_or (thn (ha pins s σ H Q I h) fun c s1 e => ?_)
  cases c with
  | false => exact isTrue_or_nil e
  | true => exact e
theorem pw_and (ha : PT X a tA) (hb : PW X (.BoolOp .And (b :: rest) pos) tB') : PW X (.BoolOp .And (a :: b :: rest) pos) (tAnd tA tB') := by
  intro wh pins s σ H Q I h
  refine isTrue_and (thn (ha pins s σ H _ I h) fun c s1 ⟨H1, I1, q1⟩ => ?_)
  cases c with
  | true => exact hb wh pins s1 σ H1 Q I1 q1
  | false => exact ⟨H1, I1, q1⟩
theorem pw_or (ha : PT X a tA) (hb : PW X (.BoolOp .Or (b :: rest) pos) tB') : PW X (.BoolOp .Or (a :: b :: rest) pos) (tOr tA tB') := by
  intro wh pins s σ H Q I h
  refine isTrue_or (thn (ha pins s σ H _ I h) fun c s1 ⟨H1, I1, q1⟩ => ?_)
  cases c with
  | true => exact ⟨H1, I1, q1⟩
  | false => exact hb wh pins s1 σ H1 Q I1 q1
theorem pt_not (ha : PT X a tA) : PT X (.UnaryOp .Not a pos) (tNot tA) := by
  intro pins s σ H Q I h
  exact isTrue_not (ha pins s σ H (fun c H1 => Q (!c) H1) I h)
/-- .. as values (bools) -/
def tAndV (ta tb : TE) : TE := fun σ H Q => ta σ H fun x H1 => ∃ c, x = .bl c ∧ if c = true then tb σ H1 Q else Q (.bl false) H1
def tOrV (ta tb : TE) : TE := fun σ H Q => ta σ H fun x H1 => ∃ c, x = .bl c ∧ if c = true then Q (.bl true) H1 else tb σ H1 Q
def tNotV (ta : TE) : TE := fun σ H Q => ta σ H fun x H1 => ∃ c, x = .bl c ∧ Q (.bl (!c)) H1
theorem pe_one {op} {t : TE} (h : PE X a t) : PE X (.BoolOp op [a] pos) t := fun pins s σ H Q I hw => BoolOp_one (h pins s σ H Q I hw)
theorem pe_and (ha : PE X a ta) (hb : PE X (.BoolOp .And (b :: rest) pos) tb) : PE X (.BoolOp .And (a :: b :: rest) pos) (tAndV ta tb) := by
  intro pins s σ H Q I h
  refine BoolOp_and (thn (ha pins s σ H _ I h) fun v s1 ⟨x, H1, I1, r1, q1⟩ => ?_)
  obtain ⟨c, rfl, q1⟩ := q1
  cases r1
  refine wpAny_truthy_bool ?_
  cases c with
  | true => exact hb pins s1 σ H1 Q I1 q1
  | false => exact ⟨.bl false, H1, I1, rfl, q1⟩
theorem pe_not (ha : PE X a ta) : PE X (.UnaryOp .Not a pos) (tNotV ta) := by
  intro pins s σ H Q I h
  refine UnaryOp_ (thn (ha pins s σ H _ I h) fun v s1 ⟨x, H1, I1, r1, q1⟩ => ?_)
  obtain ⟨c, rfl, q1⟩ := q1
  cases r1
  exact not_of (wpAny_truthy_bool ⟨.bl (!c), H1, I1, rfl, q1⟩)
/-- a if t else b -/
def tIf (t : TT) (ta tb : TE) : TE := fun σ H Q => t σ H fun c H1 => if c = true then ta σ H1 Q else tb σ H1 Q
theorem pe_ifExp {c : Expr} (hc : PT X c tA) (ha : PE X a ta) (hb : PE X b tb) : PE X (.IfExp c a b pos) (tIf tA ta tb) := by
  intro pins s σ H Q I h
  refine wpAny_IfExp (thn (hc pins s σ H _ I h) fun d s1 ⟨H1, I1, q1⟩ => ?_)
  cases d with
  | true => exact ha pins s1 σ H1 Q I1 q1
  | false => exact hb pins s1 σ H1 Q I1 q1
end
end L2

namespace L2
open PySem PySem.Spec PyProof.Rows

def SqL (K : PySem.W.Frag) (H : Hp) (a : Addr) (xs : List V) : Prop :=
  Rd H a (.lst xs) ∨
    ∃ (o : Obj) (its : Array Value) (n : Nat), K.lookup a = some o ∧ o.cls = .type "list" ∧ o.dict = none ∧ o.data = .seq its n ∧ its.size ≤ sizeLine ∧ Vals xs its.toList
def SqT (K : PySem.W.Frag) (H : Hp) (a : Addr) (xs : List V) : Prop :=
  Rd H a (.tup xs) ∨
    ∃ (o : Obj) (its : Array Value) (n : Nat), K.lookup a = some o ∧ o.cls = .type "tuple" ∧ o.data = .seq its n ∧ its.size ≤ sizeLine ∧ Vals xs its.toList
def absV : Value → Option V
  | .none => some .non
  | .bool b => some (.bl b)
  | .int i _ => some (.int i)
  | .str x _ => some (.str x)
  | .bytes b _ => some (.byt b)
  | .float b _ => some (.flt b)
  | .ref a => some (.ref a)
  | .type n => some (.ty n)
  | _ => none
theorem RelV.abs {x : V} {u : Value} (r : RelV x u) : absV u = some x := by
  cases x with
  | non => cases r; rfl
  | bl _ => cases r; rfl
  | int _ => obtain ⟨t, rfl⟩ := r; rfl
  | str _ => obtain ⟨t, rfl⟩ := r; rfl
  | byt _ => obtain ⟨t, rfl⟩ := r; rfl
  | flt _ => obtain ⟨t, rfl⟩ := r; rfl
  | ref _ => cases r; rfl
  | ty _ => cases r; rfl
theorem RelV.inj {x y : V} {u : Value} (r : RelV x u) (q : RelV y u) : x = y := Option.some.inj (r.abs.symm.trans q.abs)
theorem Vals.inj : ∀ {xs ys : List V} {us : List Value}, Vals xs us → Vals ys us → xs = ys
  | _, _, _, .nil, .nil => rfl
  | _, _, _, .cons r t, .cons r' t' => by rw [r.inj r', Vals.inj t t']
section
variable {X : Cx} {pins : List (Addr × Obj)} {σ : St} {H : Hp} {s : Shared} {a : Addr} {xs ys : List V}
theorem SqL.of {K : PySem.W.Frag} (h : H a = some (.lst xs)) : SqL K H a xs := .inl (.inl h)
theorem SqT.of {K : PySem.W.Frag} (h : H a = some (.tup xs)) : SqT K H a xs := .inl (.inl h)
theorem Inv.list (I : Inv X pins σ H s) (h : SqL X.K H a xs) : ∃ its : List Value, Vals xs its ∧ PlainL s.heap a its.toArray ∧ xs.length ≤ sizeLine := by
  rcases h with h | ⟨o, its, n, hk, hc, hd, hs, hz, r⟩
  · obtain ⟨z, its, n, r, e⟩ := h.ok I.hok
    exact ⟨its, r, ⟨_, n, e, rfl, rfl, rfl⟩, z⟩
  · refine ⟨its.toList, r, ⟨o, n, I.kIn a o hk, hc, hd, by simpa using hs⟩, ?_⟩
    have e := r.length
    simp only [Array.length_toList] at e
    omega
theorem Inv.tuple (I : Inv X pins σ H s) (h : SqT X.K H a xs) : ∃ its : List Value, Vals xs its ∧ IsTup s.heap a its.toArray ∧ xs.length ≤ sizeLine := by
  rcases h with h | ⟨o, its, n, hk, hc, hs, hz, r⟩
  · obtain ⟨z, its, r, p⟩ := h.ok I.hok
    exact ⟨its, r, p, z⟩
  · refine ⟨its.toList, r, ⟨o, I.kIn a o hk, hc, n, by simpa using hs⟩, ?_⟩
    have e := r.length
    simp only [Array.length_toList] at e
    omega
theorem Inv.list_inj (I : Inv X pins σ H s) (h : SqL X.K H a xs) (h' : SqL X.K H a ys) : xs = ys := by
  obtain ⟨its, r, ⟨o, n, e, _, _, d⟩, _⟩ := I.list h
  obtain ⟨its', r', ⟨o', n', e', _, _, d'⟩, _⟩ := I.list h'
  rw [e] at e'; cases e'
  rw [d] at d'
  injection d' with d1 _
  have : its = its' := by simpa using congrArg Array.toList d1
  subst this
  exact r.inj r'
end

abbrev Cx.wish (X : Cx) (E : Value → Shared → Prop) : Cx := { X with xe := E }
/-- no exception leaves -/
abbrev Cx.nox (X : Cx) : Cx := X.wish fun _ _ => False
theorem Cx.Ok.wish {X : Cx} (ok : X.Ok) (E : Value → Shared → Prop) : (X.wish E).Ok :=
  ⟨ok.mod, ok.kind, ok.glob, ok.blt, ok.above, ok.inj, ok.has, ok.cab, ok.hd, ok.frames, ok.stk, ok.exf, ok.bs, ok.bsz, ok.noex, ok.exfs, ok.funs, ok.frf⟩
theorem Cx.Ok.unwish {X : Cx} {E : Value → Shared → Prop} (ok : (X.wish E).Ok) : X.Ok :=
  ⟨ok.mod, ok.kind, ok.glob, ok.blt, ok.above, ok.inj, ok.has, ok.cab, ok.hd, ok.frames, ok.stk, ok.exf, ok.bs, ok.bsz, ok.noex, ok.exfs, ok.funs, ok.frf⟩
section
variable {X : Cx} {pins : List (Addr × Obj)} {σ : St} {H : Hp} {s : Shared} {E : Value → Shared → Prop}
theorem Inv.wish (I : Inv X pins σ H s) (E : Value → Shared → Prop) : Inv (X.wish E) pins σ H s := ⟨I.ok.wish E, I.os, I.bare, I.base, I.loc, I.cell, I.free, I.freeC, I.pin, I.hok, I.len⟩
theorem Inv.unwish (I : Inv (X.wish E) pins σ H s) : Inv X pins σ H s := ⟨I.ok.unwish, I.os, I.bare, I.base, I.loc, I.cell, I.free, I.freeC, I.pin, I.hok, I.len⟩
theorem SP.unwish {D : Ends} {f : Flow} {s' : Shared} (h : SP (X.wish E) pins D f s') : SP X pins D f s' := by
  cases f with
  | next => obtain ⟨σ', H', I, q⟩ := h; exact ⟨σ', H', I.unwish, q⟩
  | brk => obtain ⟨σ', H', I, q⟩ := h; exact ⟨σ', H', I.unwish, q⟩
  | cont => obtain ⟨σ', H', I, q⟩ := h; exact ⟨σ', H', I.unwish, q⟩
  | ret u => obtain ⟨v, σ', H', I, r, q⟩ := h; exact ⟨v, σ', H', I.unwish, r, q⟩
theorem PE.nox {e : Expr} {t : TE} (h : PE X.nox e t) : PE X e t := fun pins s σ H Q I hw =>
  wpAny_mono (h pins s σ H Q (I.wish _) hw) (fun _ _ ⟨v, H', I', r, q⟩ => ⟨v, H', I'.unwish, r, q⟩) fun _ _ z => False.elim z
theorem PT.nox {e : Expr} {t : TT} (h : PT X.nox e t) : PT X e t := fun pins s σ H Q I hw =>
  wpAny_mono (h pins s σ H Q (I.wish _) hw) (fun _ _ ⟨H', I', q⟩ => ⟨H', I'.unwish, q⟩) fun _ _ z => False.elim z
theorem PSs.nox {st : List Stmt} {t : TS} (h : PSs X.nox st t) : PSs X st t := fun pins s σ H D I hw =>
  wpAny_mono (h pins s σ H D (I.wish _) hw) (fun _ _ q => q.unwish) fun _ _ z => False.elim z
end

section
variable {X : Cx} {st : Stmt} {rest : List Stmt} {t u : TS} {e : Expr} {te : TE} {pos : Pos}
def tNext : TS := fun D σ H => D.nx σ H
def tSeq (t u : TS) : TS := fun D σ H => t { D with nx := u D } σ H
theorem pss_nil : PSs X [] tNext := fun _ _ σ H _ I h => wpAny_execs_nil ⟨σ, H, I, h⟩
theorem pss_cons (h1 : PS X st t) (h2 : PSs X rest u) : PSs X (st :: rest) (tSeq t u) := by
  intro pins s σ H D I h
  refine wpAny_execs_cons (thn (h1 pins s σ H { D with nx := u D } I h) fun f s1 q => ?_)
  cases f with
  | next =>
    obtain ⟨σ', H', I', q⟩ := q
    exact h2 pins s1 σ' H' D I' q
  | ret v => exact q
  | brk => exact q
  | cont => exact q
theorem pss_one (h1 : PS X st t) : PSs X [st] t := by
  intro pins s σ H D I h
  refine wpAny_execs_cons (thn (h1 pins s σ H D I h) fun f s1 q => ?_)
  cases f with
  | next => exact wpAny_execs_nil q
  | ret v => exact q
  | brk => exact q
  | cont => exact q
/-- in a def's body nothing is shown -/
theorem Inv.quiet {pins : List (Addr × Obj)} {σ : St} {H : Hp} {s : Shared} (I : Inv X pins σ H s) : interactive X.env = false := by simp [interactive, I.ok.kind]
/-- an expression whose value is dropped -/
def tDrop (te : TE) : TS := fun D σ H => te σ H fun _ H1 => D.nx σ H1
theorem ps_expr (he : PE X e te) (hs : swapsWith e none pos.line X.env = pure false := by rfl) : PS X (.Expr e pos) (tDrop te) := by
  intro pins s σ H D I h
  exact wpAny_Expr_any (thn (he pins s σ H _ I h) fun v s1 ⟨x, H1, I1, r1, q1⟩ => ⟨σ, H1, I1, q1⟩) I.quiet hs
def tRet (te : TE) : TS := fun D σ H => te σ H D.rt
theorem ps_ret (he : PE X e te) : PS X (.Return (some e) pos) (tRet te) := by
  intro pins s σ H D I h
  exact wpAny_Return_some (thn (he pins s σ H _ I h) fun v s1 ⟨x, H1, I1, r1, q1⟩ => ⟨x, σ, H1, I1, r1, q1⟩)
def tRetN : TS := fun D _ H => D.rt .non H
def tIfS (c : TT) (t u : TS) : TS := fun D σ H => c σ H fun b H1 => if b = true then t D σ H1 else u D σ H1
theorem ps_if {c : Expr} {a b : List Stmt} {tc : TT} (hc : PT X c tc) (ha : PSs X a t) (hb : PSs X b u) : PS X (.If c a b pos) (tIfS tc t u) := by
  intro pins s σ H D I h
  refine wpAny_If (thn (hc pins s σ H _ I h) fun d s1 ⟨H1, I1, q1⟩ => ?_)
  cases d with
  | true => exact ha pins s1 σ H1 D I1 q1
  | false => exact hb pins s1 σ H1 D I1 q1
/-- code that the proof never comes to -/
def tNever : TS := fun _ _ _ => False
theorem ps_never : PS X st tNever := fun _ _ _ _ _ _ h => h.elim
end

abbrev TG := V → St → Hp → (St → Hp → Prop) → Prop
abbrev TGs := List V → St → Hp → (St → Hp → Prop) → Prop
def PG (X : Cx) (target : Expr) (t : TG) : Prop :=
  ∀ (pins : List (Addr × Obj)) (s : Shared) (σ : St) (H : Hp) (v : V) (u : Value) (Q : St → Hp → Prop), Inv X pins σ H s → RelV v u → t v σ H Q →
    wpAny (model X.prog X.w) X.A (assign target X.env u) (fun _ s' => ∃ σ' H', Inv X pins σ' H' s' ∧ Q σ' H') X.xe s
/-- several targets, one after another -/
def PGs (X : Cx) (ts : List Expr) (t : TGs) : Prop :=
  ∀ (pins : List (Addr × Obj)) (s : Shared) (σ : St) (H : Hp) (vs : List V) (us : List Value) (Q : St → Hp → Prop), Inv X pins σ H s → Vals vs us → t vs σ H Q →
    wpAny (model X.prog X.w) X.A (assignInOrder ((assignEach ts X.env).map (·.2)) us) (fun _ s' => ∃ σ' H', Inv X pins σ' H' s' ∧ Q σ' H') X.xe s
/-- o[i] = v, by values -/
abbrev TSet := V → V → V → Hp → (Hp → Prop) → Prop
def PSet (X : Cx) (t : TSet) : Prop :=
  ∀ (pins : List (Addr × Obj)) (s : Shared) (σ : St) (H : Hp) (o i v : V) (ov iv u : Value) (Q : Hp → Prop), Inv X pins σ H s → RelV o ov → RelV i iv → RelV v u → t o i v H Q →
    wpAny (model X.prog X.w) X.A (setItem ov iv u) (fun _ s' => ∃ H', Inv X pins σ H' s' ∧ Q H') X.xe s
section
variable {X : Cx} {pos : Pos}
def gName (i : Nat) : TG := fun v σ H Q => Q (σ.set i (some v)) H
theorem pg_name {i : Nat} {x : Str} (hN : X.N.Nodup) (hi : X.N[i]? = some x) (hx : Loc X.env.scope x) (hf : X.fn x = true ∨ X.env.scope.names.lookup x = some .local := by first | exact .inl rfl | exact .inr rfl | assumption) : PG X (.Name x pos) (gName i) := by
  intro pins s σ H v u Q I r h
  exact wpAny_assign_Name (store_ok I hN hi hx r (fun s' I' => ⟨_, H, I', h⟩) hf)
def gNil : TGs := fun vs σ H Q => vs = [] ∧ Q σ H
def gCons (t : TG) (u : TGs) : TGs := fun vs σ H Q => ∃ v r, vs = v :: r ∧ t v σ H fun σ' H' => u r σ' H' Q
theorem pgs_nil : PGs X [] gNil := by
  intro pins s σ H vs us Q I r h
  obtain ⟨e, h⟩ := h
  subst e
  cases r
  exact assignInOrder_nil ⟨σ, H, I, h⟩
theorem pgs_cons {e : Expr} {es : List Expr} {t : TG} {u : TGs} (h1 : PG X e t) (h2 : PGs X es u)
    (hs : (assignEach (e :: es) X.env).map (·.2) = assign e X.env :: (assignEach es X.env).map (·.2) := by rfl) : PGs X (e :: es) (gCons t u) := by
  intro pins s σ H vs us Q I r h
  obtain ⟨v, vr, e1, h⟩ := h
  subst e1
  cases r with
  | cons r rr =>
    rw [hs]
    refine assignInOrder_cons (thn (h1 pins s σ H _ _ _ I r h) fun _ s1 ⟨σ1, H1, I1, q1⟩ => ?_)
    exact h2 pins s1 σ1 H1 _ _ Q I1 rr q1
/-- (a, b, ..) = a tuple of that length -/
def gTup (K : PySem.W.Frag) (n : Nat) (t : TGs) : TG := fun v σ H Q => ∃ a xs, v = .ref a ∧ SqT K H a xs ∧ xs.length = n ∧ t xs σ H Q
theorem pg_tup {es : List Expr} {k : Nat} {t : TGs} {n : Nat} (hc : X.calm = true) (h : PGs X es t)
    (hn : (assignEach es X.env).length = n := by rfl) (hst : (assignEach es X.env).findIdx? (·.1) = none := by rfl) : PG X (.Tuple es k pos) (gTup X.K n t) := by
  intro pins s σ H v u Q I r hw
  obtain ⟨a, xs, e1, hq, hl, hw⟩ := hw
  subst e1
  cases r
  obtain ⟨its, rv, ht, hz⟩ := I.tuple hq
  refine assign_Tuple_tuple (I.ok.hd hc) ht (by simp [hn, ← hl, rv.length]) hst fun h' hx => ?_
  have I1 : Inv X pins σ H { s with heap := h' } := I.kept (t' := s.toks) fun b o e => hx b o (Nat.ne_of_lt (Heap.lt_size e)) e
  exact h pins _ σ H xs _ Q I1 (by simpa using rv) hw
/-- o[i] = .. -/
def gSub (to ti : TE) (t : TSet) : TG := fun v σ H Q => to σ H fun o H1 => ti σ H1 fun i H2 => t o i v H2 fun H3 => Q σ H3
theorem pg_sub {o i : Expr} {to ti : TE} {t : TSet} (ho : PE X o to) (hi : PE X i ti) (hs : PSet X t)
    (ha : ∀ v, assign (.Subscript o i pos) X.env v = (do
      let ov ← holding [v] (eval o X.env)
      let iv ← holding [v, ov] (eval i X.env)
      standAt pos
      holding [v, ov, iv] (setItem ov iv v)
      release [v, ov, iv] []) := by intro _; rfl) : PG X (.Subscript o i pos) (gSub to ti t) := by
  intro pins s σ H v u Q I r h
  rw [ha]
  refine wpAny_bind (wpAny_holding (thn (ho pins s σ H _ I h) fun ov s1 ⟨x, H1, I1, r1, q1⟩ => ?_))
  refine wpAny_bind (wpAny_holding (thn (hi pins s1 σ H1 _ I1 q1) fun iv s2 ⟨y, H2, I2, r2, q2⟩ => ?_))
  refine wpAny_bind (wpAny_standAt (wpAny_bind (wpAny_holding (thn (hs pins s2 σ H2 x y v ov iv u _ I2 r1 r2 r q2) fun _ s3 ⟨H3, I3, q3⟩ => ?_))))
  exact wpAny_release ⟨σ, H3, I3, q3⟩
/-- target = value -/
def tAsg (te : TE) (g : TG) : TS := fun D σ H => te σ H fun x H1 => g x σ H1 D.nx
theorem ps_asg {tg e : Expr} {te : TE} {g : TG} (he : PE X e te) (hg : PG X tg g) (hs : swapsWithSole [tg] e pos.line X.env = pure false := by rfl) (hw : swappedStores [tg] e X.env = pure none := by rfl)
    (h1 : (assignEach [tg] X.env).map (·.2) = [assign tg X.env] := by rfl) : PS X (.Assign [tg] e pos) (tAsg te g) := by
  intro pins s σ H D I h
  refine wpAny_Assign_stores (thn (he pins s σ H _ I h) fun v s1 ⟨x, H1, I1, r1, q1⟩ => ?_) hs hw
  rw [h1]
  exact thn (hg pins s1 σ H1 x v _ I1 r1 q1) fun _ s2 q => q
/-- name = value -/
theorem ps_set {i : Nat} {x : Str} {e : Expr} {te : TE} {pos' : Pos} (hN : X.N.Nodup) (hi : X.N[i]? = some x) (hx : Loc X.env.scope x) (he : PE X e te) (hs : swapsWith e (some (.Name x pos')) pos.line X.env = pure false := by rfl) (hf : X.fn x = true ∨ X.env.scope.names.lookup x = some .local := by first | exact .inl rfl | exact .inr rfl | assumption) :
    PS X (.Assign [.Name x pos'] e pos) (tAsg te (gName i)) := by
  intro pins s σ H D I h
  refine wpAny_Assign_Name (thn (he pins s σ H _ I h) fun v s1 ⟨y, H1, I1, r1, q1⟩ => ?_) hs
  exact store_ok I1 hN hi hx r1 (fun s2 I2 => ⟨_, H1, I2, q1⟩) hf
/-- a, b = x, y with plain local names: stored from the right; the pair itself is not tracked (the opening rows as in PyProof/Rows/TupAssign.lean:23) -/
def tPar (i j : Nat) (ta : TA) : TS := fun D σ H => ta σ H fun vs H1 => ∃ v w, vs = [v, w] ∧ D.nx ((σ.set i (some v)).set j (some w)) H1
theorem ps_par {i j : Nat} {x y : Str} {a b : Expr} {ta : TA} {px py pt : Pos} {kt k2 pt2} (hc : X.calm = true) (hN : X.N.Nodup) (hi : X.N[i]? = some x) (hj : X.N[j]? = some y) (hij : i ≠ j)
    (hx : X.env.scope.names.lookup x = some .local) (hy : X.env.scope.names.lookup y = some .local) (ha : PA X [a, b] ta)
    (hw : swappedStores [.Tuple [.Name x px, .Name y py] kt pt] (.Tuple [a, b] k2 pt2) X.env = pure (some [x, y]))
    (hs : swapsWithSole [.Tuple [.Name x px, .Name y py] kt pt] (.Tuple [a, b] k2 pt2) pos.line X.env = pure false := by rfl) :
    PS X (.Assign [.Tuple [.Name x px, .Name y py] kt pt] (.Tuple [a, b] k2 pt2) pos) (tPar i j ta) := by
  intro pins s σ H D I h
  rw [exec_Assign_arm]
  refine wpAny_bind (wpAny_standAt ?_)
  rw [hs]
  refine wpAny_bind (wpAny_pure ?_)
  rw [if_neg (by decide)]
  refine wpAny_bind (Tuple_ (thn (ha _ pins s σ H _ I h) fun us s1 ⟨vs, H1, I1, r1, q1⟩ => ?_))
  obtain ⟨v, w, e1, q1⟩ := q1
  subst e1
  obtain ⟨u1, u2, rfl, rv, rw'⟩ : ∃ u1 u2, us = [u1, u2] ∧ RelV v u1 ∧ RelV w u2 := by
    cases r1 with
    | cons p q =>
      cases q with
      | cons p' q' =>
        cases q'
        exact ⟨_, _, rfl, p, p'⟩
  refine wpAny_newObj_type ?_ (by show 2 ≤ sizeLine; decide)
  have I2 : Inv X pins σ H1 { s1 with heap := s1.heap.push { cls := .type "tuple", data := .seq [u1, u2].toArray } } := I1.kept (t' := s1.toks) fun b o e => Heap.get?_push_of_some _ e
  rw [hw]
  refine wpAny_bind (wpAny_pure ?_)
  show wpAny (model X.prog X.w) X.A (do rule "assign.swapped-stores"; let items ← unpackItems (.ref s1.heap.objs.size) 2 none; assignInOrder [fun v => bindName X.env y v, fun v => bindName X.env x v] items.reverse; pure Flow.next) _ _ _
  refine wpAny_bind (wpAny_rule (wpAny_bind (unpackItems_tuple (items := #[u1, u2]) (I.ok.hd hc) (IsTup.new s1.heap _) fun h' hx' => ?_)))
  have I3 := I2.kept (h' := h') (t' := s1.toks) fun b o e => hx' b o (Nat.ne_of_lt (Heap.lt_size e)) e
  show wpAny _ _ (assignInOrder [fun v => bindName X.env y v, fun v => bindName X.env x v] [u2, u1] >>= fun _ => pure Flow.next) _ _ _
  refine wpAny_bind (assignInOrder_cons (wpAny_bindName (store_ok I3 hN hj (.inl hy) rw' (fun s2 I4 => ?_) (.inr hy))))
  refine assignInOrder_cons (wpAny_bindName (store_ok I4 hN hi (.inl hx) rv (fun s3 I5 => assignInOrder_nil (wpAny_pure ?_)) (.inr hx)))
  rw [List.set_comm _ _ (Ne.symm hij)] at I5
  exact ⟨_, H1, I5, q1⟩
end

section
variable {X : Cx} {pos : Pos}
end

/-- at turn i: it yields x (the heap may grow), or it stops -/
structure It where
  go : Nat → Hp → Prop
  yld : Nat → Hp → V → Hp → Prop
  stop : Nat → Hp → Prop
/-- the iterator's own objects may turn: they are not the frame's, not pinned, younger than the entry (or a comprehension's own) -/
def FpOk (X : Cx) (pins : List (Addr × Obj)) (H : Hp) (b : Addr) : Prop :=
  H b = none ∧ b ≠ X.env.locals ∧ b ∉ X.fs ∧ (b ∈ X.ex ∨ X.s₀.heap.objs.size ≤ b) ∧ (∀ x c, X.env.cells.lookup x = some c → c ≠ b) ∧ ∀ p ∈ X.pn ++ pins, p.1 ≠ b
theorem Inv.fpOk {X : Cx} {pins : List (Addr × Obj)} {σ : St} {H H' : Hp} {s : Shared} {b : Addr} (I : Inv X pins σ H s) (hb : s.heap.objs.size ≤ b) (hn : H' b = none) : FpOk X pins H' b := by
  refine ⟨hn, Nat.ne_of_gt (Nat.lt_of_lt_of_le I.lt hb), I.nofs hb, .inr (Nat.le_trans I.sz hb), fun x c e z => ?_, fun p hp z => ?_⟩
  · obtain ⟨v, q⟩ := I.cell x c e
    exact absurd (Nat.lt_of_lt_of_le q.lt (by rw [z]; exact hb)) (Nat.lt_irrefl _)
  · exact absurd (Nat.lt_of_lt_of_le (Heap.lt_size (I.pin p hp).1) (by rw [z]; exact hb)) (Nat.lt_irrefl _)
structure Turn (P : Program) (w : World) (K : PySem.W.Frag) (tg : Expr) (J : It) (fp : List Addr) (it : Addr) (tn : Nat → Heap → Prop) : Prop where
  mem : it ∈ fp
  obj : ∀ i h, tn i h → ∀ b ∈ fp, ∃ o, h.get? b = some o ∧ ∀ v, o.data ≠ .cell v
  keep : ∀ i h h', tn i h → (∀ b ∈ fp, ∀ o, h.get? b = some o → h'.get? b = some o) → tn i h'
  item : ∀ (X : Cx), X.prog = P → X.w = w → X.K = K → X.calm = true → ∀ (i : Nat) (pins : List (Addr × Obj)) (s : Shared) (σ : St) (H : Hp) (E : Value → Shared → Prop), Inv X pins σ H s → (∀ b ∈ fp, FpOk X pins H b) → tn i s.heap → J.go i H →
    wpAny (model P w) X.A (pyNext (.ref it)) (fun r s1 => ∃ u, r = some u ∧
      wpAny (model P w) X.A (letOwnedTupleGo tg (.ref it) u) (fun _ s2 => ∃ x H', Inv X pins σ H' s2 ∧ RelV x u ∧ J.yld i H x H' ∧ tn (i + 1) s2.heap ∧ ∀ b ∈ fp, H' b = none) E s1) E s
  done : ∀ (X : Cx), X.prog = P → X.w = w → X.K = K → X.calm = true → ∀ (i : Nat) (pins : List (Addr × Obj)) (s : Shared) (σ : St) (H : Hp) (E : Value → Shared → Prop), Inv X pins σ H s → (∀ b ∈ fp, FpOk X pins H b) → tn i s.heap → J.stop i H →
    wpAny (model P w) X.A (pyNext (.ref it)) (fun r s1 => r = none ∧ Inv X pins σ H s1) E s
  self : ∀ (A : Around) (i : Nat) (s : Shared) (Q : Value → Shared → Prop) (E : Value → Shared → Prop), tn i s.heap → Q (.ref it) s → wpAny (model P w) A (pyIter (.ref it)) Q E s
abbrev TI := St → Hp → (It → Hp → Prop) → Prop
/-- an iterator has come -/
def PIE (X : Cx) (pins : List (Addr × Obj)) (σ : St) (tg : Expr) (R : It → Hp → Prop) (itv : Value) (s2 : Shared) : Prop :=
  ∃ (it : Addr) (fp : List Addr) (tn : Nat → Heap → Prop) (J : It) (H' : Hp), itv = .ref it ∧ Inv X pins σ H' s2 ∧ Turn X.prog X.w X.K tg J fp it tn ∧ tn 0 s2.heap ∧ (∀ b ∈ fp, FpOk X pins H' b) ∧ R J H'
def PI (X : Cx) (tg iter : Expr) (wi : TI) : Prop :=
  ∀ (pins : List (Addr × Obj)) (s : Shared) (σ : St) (H : Hp) (R : It → Hp → Prop), Inv X pins σ H s → wi σ H R →
    wpAny (model X.prog X.w) X.A (eval iter X.env) (fun v s1 => wpAny (model X.prog X.w) X.A (pyIter v) (PIE X pins σ tg R) X.xe s1) X.xe s

/-- the step ahead of the store is nothing for an iterator that keeps no tuple -/
theorem go_of {M : Model} {A : Around} {E : Value → Shared → Prop} {s : Shared} {tg : Expr} {it : Addr} {u : Value} {o : Obj} {n : String} {vs : Array Value} {Q : Unit → Shared → Prop} (ho : s.heap.get? it = some o) (hc : o.cls = .type n) (hd : o.data = .fields vs)
    (hn : ["enumerate", "zip", "dict_itemiterator", "dict_reverseitemiterator", "odict_iterator", "itertools.zip_longest", "itertools.pairwise"].contains n = false) (hQ : Q () s) : wpAny M A (letOwnedTupleGo tg (.ref it) u) Q E s := by
  unfold letOwnedTupleGo
  cases tg <;> first
    | exact wpAny_pure hQ
    | (cases u <;> first
        | exact wpAny_pure hQ
        | (refine wpAny_bind (wpAny_load ho ?_)
           rw [hc, hd]
           show wpAny M A (if (["enumerate", "zip", "dict_itemiterator", "dict_reverseitemiterator", "odict_iterator", "itertools.zip_longest", "itertools.pairwise"].contains n && vs[0]? == some (rawInt _)) = true then _ else _) Q E s
           rw [if_neg (by intro h; rw [hn, Bool.false_and] at h; cases h)]
           exact wpAny_pure hQ))

/-- the list at a, as it stands at each turn (a loop may append to it) -/
def Itl (K : PySem.W.Frag) (a : Addr) : It :=
  ⟨fun i H => ∃ xs x, SqL K H a xs ∧ xs[i]? = some x, fun i H x H' => H' = H ∧ ∀ xs, SqL K H a xs → xs[i]? = some x, fun i H => ∃ xs, SqL K H a xs ∧ xs.length ≤ i⟩
/-- lo, lo + 1, .. (n of them) -/
def Itr (lo : Int) (n : Nat) : It := ⟨fun i _ => i < n, fun i H x H' => H' = H ∧ x = .int (lo + i), fun i _ => n ≤ i⟩
theorem turn_list {P : Program} {w : World} {K : PySem.W.Frag} {tg : Expr} (a it : Addr) : Turn P w K tg (Itl K a) [it] it (fun i h => h.IsListIter it a i) where
  mem := by simp
  obj := fun i h st b hb => by
    have e : b = it := by simpa using hb
    subst e
    obtain ⟨o, e, c, d⟩ := st
    exact ⟨o, e, fun v z => by rw [d] at z; cases z⟩
  keep := fun i h h' st k => st.at fun o e => k it (by simp) o e
  item := by
    intro X hP hw hK hc i pins s σ H E I hf st hg
    subst hP hw hK
    obtain ⟨xs, x, hq, hx⟩ := hg
    obtain ⟨its, rv, p, hz⟩ := I.list hq
    obtain ⟨u, hu, ru⟩ := rv.get hx
    obtain ⟨f0, f1, f2, f3, f4, f5⟩ := hf it (by simp)
    refine wpAny_pyNext_list_item st p.isList (x := u) (by simpa using hu) fun h' st' sb => ?_
    have I1 : Inv X pins σ H { s with heap := h' } := I.turned (t' := s.toks) (fun b o hb e => (sb.2 b hb).trans e) f0 f1 f3 f4 f5
    obtain ⟨o, e, c, d⟩ := id st'
    exact ⟨u, rfl, go_of (s := { s with heap := h' }) e c d (by decide) ⟨x, H, I1, ru, ⟨rfl, fun ys hy => by rw [I.list_inj hy hq]; exact hx⟩, st', fun b hb => (hf b hb).1⟩⟩
  done := by
    intro X hP hw hK hc i pins s σ H E I hf st hg
    subst hP hw hK
    obtain ⟨xs, hq, hx⟩ := hg
    obtain ⟨its, rv, p, hz⟩ := I.list hq
    obtain ⟨f0, f1, f2, f3, f4, f5⟩ := hf it (by simp)
    have hl := rv.length
    exact wpAny_pyNext_list_end (I.ok.hd hc) st p.isList (by simp; omega) fun h' eb => ⟨rfl, I.turned (t' := s.toks) (fun b o hb e => eb b o hb e) f0 f1 f3 f4 f5⟩
  self := fun _ _ _ _ _ st h => wpAny_pyIter_listiter st h
theorem turn_range {P : Program} {w : World} {K : PySem.W.Frag} {tg : Expr} (it : Addr) (lo : Int) (n : Nat) : Turn P w K tg (Itr lo n) [it] it (fun i h => IsRangeIter h it (lo + (i : Nat) * 1) ((n : Int) - (i : Nat)) 1) where
  mem := by simp
  obj := fun i h st b hb => by
    have e : b = it := by simpa using hb
    subst e
    exact ⟨_, st, fun v z => by
      have z' : Data.fields _ = Data.cell v := z
      cases z'⟩
  keep := fun i h h' st k => k it (by simp) _ st
  item := by
    intro X hP hw hK hc i pins s σ H E I hf st hg
    subst hP hw hK
    obtain ⟨f0, f1, f2, f3, f4, f5⟩ := hf it (by simp)
    have W := Walks.range (prog := X.prog) (w := X.w) (I.ok.hd hc) it lo 1 n
    refine W.item i s _ _ hg st fun v h' tk hv st' kk => ?_
    obtain ⟨t, rfl⟩ := hv
    have I1 : Inv X pins σ H { s with heap := h', toks := tk } := I.turned (fun b o hb e => kk b o (by simpa using hb) e) f0 f1 f3 f4 f5
    refine ⟨_, rfl, go_of (s := { s with heap := h', toks := tk }) (n := "range_iterator") st' rfl rfl (by decide) ⟨.int (lo + i), H, I1, ⟨t, ?_⟩, ⟨rfl, rfl⟩, st', fun b hb => (hf b hb).1⟩⟩
    rw [Int.mul_one]
  done := by
    intro X hP hw hK hc i pins s σ H E I hf st hg
    subst hP hw hK
    obtain ⟨f0, f1, f2, f3, f4, f5⟩ := hf it (by simp)
    exact wpAny_pyNext_range_end (I.ok.hd hc) st (by have : n ≤ i := hg; omega) fun h' eb => ⟨rfl, I.turned (t' := s.toks) (fun b o hb e => eb b o hb e) f0 f1 f3 f4 f5⟩
  self := fun _ _ _ _ _ st h => wpAny_pyIter_rangeiter st h
end L2

namespace L2
open PySem PySem.Spec PyProof.Rows
section
variable {X : Cx} {tg : Expr}
def iList (K : PySem.W.Frag) (tl : TE) : TI := fun σ H R => tl σ H fun x H1 => ∃ a, x = .ref a ∧ (∃ xs, SqL K H1 a xs) ∧ R (Itl K a) H1
theorem pi_list {l : Expr} {tl : TE} (hl : PE X l tl) : PI X tg l (iList X.K tl) := by
  intro pins s σ H R I h
  refine thn (hl pins s σ H _ I h) fun v s1 ⟨x, H1, I1, r1, q1⟩ => ?_
  obtain ⟨a, e, ⟨xs, hq⟩, q⟩ := q1
  subst e
  cases r1
  obtain ⟨its, rv, p, hz⟩ := I1.list hq
  refine wpAny_pyIter_list p.isList ?_
  refine ⟨s1.heap.objs.size, [s1.heap.objs.size], _, _, H1, rfl, I1.kept (t' := s1.toks) fun b o e => Heap.get?_push_of_some _ e, turn_list a _, ⟨_, Heap.get?_push_size _ rfl, rfl, rfl⟩, fun b hb => ?_, q⟩
  have e : b = s1.heap.objs.size := by simpa using hb
  subst e
  exact I1.fpOk (Nat.le_refl _) (I1.hok.fresh (Nat.le_refl _))
/-- a range object just made, walked -/
theorem range_it {pins : List (Addr × Obj)} {σ : St} {H : Hp} {s : Shared} {R : It → Hp → Prop} {E : Value → Shared → Prop} {lo hi : Int} {t u v : Tok} {tk : Nat} (I : Inv X pins σ H s) (h1 : -(2 ^ 62) ≤ lo) (h2 : lo < 2 ^ 62) (h3 : -(2 ^ 62) ≤ hi) (h4 : hi < 2 ^ 62)
    (q : R (Itr lo (hi - lo).toNat) H) : wpAny (model X.prog X.w) X.A (pyIter (.ref s.heap.objs.size)) (PIE X pins σ tg R) E { s with heap := s.heap.push { cls := .type "range", data := .fields #[.int lo t, .int hi u, .int 1 v] }, toks := tk } := by
  refine wpAny_pyIter_range (IsRange.new ..) (small_one h1 h2 h3 h4) ?_
  have I1 : Inv X pins σ H { s with heap := s.heap.push { cls := .type "range", data := .fields #[.int lo t, .int hi u, .int 1 v] }, toks := tk } := I.kept fun b o e => Heap.get?_push_of_some _ e
  refine ⟨(s.heap.push { cls := .type "range", data := .fields #[.int lo t, .int hi u, .int 1 v] }).objs.size, [(s.heap.push { cls := .type "range", data := .fields #[.int lo t, .int hi u, .int 1 v] }).objs.size], _, _, H, rfl,
    I1.kept (t' := tk) fun b o e => Heap.get?_push_of_some _ e, turn_range _ lo (hi - lo).toNat, ?_, fun b hb => ?_, q⟩
  · have e1 : lo + ((0 : Nat) : Int) * 1 = lo := by simp
    have e2 : (((hi - lo).toNat : Nat) : Int) - ((0 : Nat) : Int) = Builtin.Range.rangeSize lo hi 1 := by rw [rangeSize_one]; split <;> omega
    show IsRangeIter _ _ (lo + ((0 : Nat) : Int) * 1) ((((hi - lo).toNat : Nat) : Int) - ((0 : Nat) : Int)) 1
    rw [e1, e2]
    exact Heap.get?_push_size _ rfl
  · have e : b = (s.heap.push { cls := .type "range", data := .fields #[.int lo t, .int hi u, .int 1 v] }).objs.size := by simpa using hb
    subst e
    exact I1.fpOk (Nat.le_refl _) (I1.hok.fresh (Nat.le_refl _))
def iRng1 (ta : TA) : TI := fun σ H R => ta σ H fun vs H1 => ∃ j : Int, vs = [.int j] ∧ -(2 ^ 62) ≤ j ∧ j < 2 ^ 62 ∧ R (Itr 0 j.toNat) H1
def iRng2 (ta : TA) : TI := fun σ H R => ta σ H fun vs H1 => ∃ i j : Int, vs = [.int i, .int j] ∧ (-(2 ^ 62) ≤ i ∧ i < 2 ^ 62 ∧ -(2 ^ 62) ≤ j ∧ j < 2 ^ 62) ∧ R (Itr i (j - i).toNat) H1
theorem pi_range1 {a : Expr} {ta : TA} {p pos : Pos} (hg : Gl X "range") (hm : X.mg "range" = none) (ha : PA X [a] ta) (hs : starEach [a] X.env = [(false, eval a X.env)] := by rfl) : PI X tg (.Call (.Name "range" p) [a] [] pos) (iRng1 ta) := by
  intro pins s σ H R I h
  refine Call_ (ld_blt I hg hm boot_range (PyProof.Rows.callWith_type1 (thn (ha pos pins s σ H _ I h) fun us s1 ⟨vs, H1, I1, r1, q1⟩ => ?_) hs rfl))
  obtain ⟨j, e, q1, q2, q⟩ := q1
  subst e
  cases r1 with
  | cons r rr =>
    cases rr
    obtain ⟨t, rfl⟩ := r
    exact call_range_1 (range_it I1 (by omega) (by omega) q1 q2 (by simpa using q))
/-- W: the invariant by the turn and a measure; N: what the body is to reach -/
def tFor (wi : TI) (g : TG) (tb : TS) : TS := fun D σ H => wi σ H fun J H1 => ∃ W : Nat → Nat → St → Hp → Prop, (∃ m, W 0 m σ H1) ∧ ∀ i m σ H, W i m σ H →
  (J.stop i H ∧ D.nx σ H) ∨ (J.go i H ∧ ∃ N : St → Hp → Prop, (∀ σ' H', N σ' H' → ∃ m', m' < m ∧ W (i + 1) m' σ' H') ∧ ∀ x H', J.yld i H x H' → g x σ H' fun σ2 H2 => tb { D with nx := N, ct := N, bk := D.nx } σ2 H2)
/-- the records at fp as they stand -/
def pinsAt (fp : List Addr) (h : Heap) : List (Addr × Obj) := fp.filterMap fun b => (h.get? b).map fun o => (b, o)
theorem mem_pinsAt {fp : List Addr} {h : Heap} {b : Addr} {o : Obj} (hb : b ∈ fp) (e : h.get? b = some o) : (b, o) ∈ pinsAt fp h := List.mem_filterMap.mpr ⟨b, hb, by rw [e]; rfl⟩
theorem of_pinsAt {fp : List Addr} {h : Heap} {p : Addr × Obj} (hp : p ∈ pinsAt fp h) : p.1 ∈ fp ∧ h.get? p.1 = some p.2 := by
  obtain ⟨b, hb, e⟩ := List.mem_filterMap.mp hp
  cases q : h.get? b with
  | none => rw [q] at e; cases e
  | some o =>
    rw [q] at e
    have e' : (b, o) = p := Option.some.inj e
    subst e'
    exact ⟨hb, q⟩
theorem Inv.pinned {pins : List (Addr × Obj)} {σ : St} {H : Hp} {s : Shared} {fp : List Addr} (I : Inv X pins σ H s) (hf : ∀ b ∈ fp, FpOk X pins H b) (ho : ∀ b ∈ fp, ∃ o, s.heap.get? b = some o ∧ ∀ v, o.data ≠ .cell v) : Inv X (pins ++ pinsAt fp s.heap) σ H s :=
  I.pins_of fun p hp => (List.mem_append.mp hp).elim (fun z => I.pin p (List.mem_append_right _ z)) fun z => by
    obtain ⟨hb, e⟩ := of_pinsAt z
    obtain ⟨f0, f1, f2, _⟩ := hf p.1 hb
    obtain ⟨o, e', d⟩ := ho p.1 hb
    rw [e] at e'; cases e'
    exact ⟨e, f0, f1, f2, d⟩
theorem Inv.unpinned {pins pl : List (Addr × Obj)} {σ : St} {H : Hp} {s : Shared} (I : Inv X (pins ++ pl) σ H s) : Inv X pins σ H s := I.pins_of fun p hp => I.pin p (List.mem_append_right _ (List.mem_append_left _ hp))
theorem ps_for {iter : Expr} {body : List Stmt} {wi : TI} {g : TG} {tb : TS} {pos : Pos} (hp : PassesOwn (model X.prog X.w) X.A X.env X.xe) (hc : X.calm = true) (hi : PI X tg iter wi) (hg : PG X tg g) (hb : PSs X body tb)
    (hs : ∀ x, foldedSetIterable iter X.env x = pure x := by intro _; rfl) : PS X (.For tg iter body [] pos) (tFor wi g tb) := by
  intro pins s σ H D I h
  refine wpAny_For (thn (hi pins s σ H _ I h) fun v s1 h1 => thn h1 fun itv s2 h2 => ?_) hs
  obtain ⟨it, fp, tn, J, H2, e, I2, T, st2, f2, W, ⟨m0, w0⟩, turn⟩ := h2
  subst e
  -- what stays true of the iterator's objects through the loop
  have stat : ∀ {H' : Hp}, (∀ b ∈ fp, H' b = none) → ∀ b ∈ fp, FpOk X pins H' b := fun hn b hb => ⟨hn b hb, (f2 b hb).2⟩
  refine codeAny_forLoop_any (fun n s' => ∃ i σ' H', Inv X pins σ' H' s' ∧ tn i s'.heap ∧ (∀ b ∈ fp, H' b = none) ∧ W i n σ' H') ?_ m0 ⟨0, σ, H2, I2, st2, fun b hb => (f2 b hb).1, w0⟩
  rintro n s3 ⟨i, σ3, H3, I3, st3, fr3, w3⟩
  rcases turn i n σ3 H3 w3 with ⟨stop, qn⟩ | ⟨go, N, hN, step⟩
  · refine wpAny_passesOwn hp (thn (T.done X rfl rfl rfl hc i pins s3 σ3 H3 X.xe I3 (stat fr3) st3 stop) fun r s4 ⟨hr, I4⟩ => ?_)
    subst hr
    exact wpAny_execs_nil ⟨σ3, H3, I4, qn⟩
  · refine wpAny_passesOwn hp (thn (T.item X rfl rfl rfl hc i pins s3 σ3 H3 X.xe I3 (stat fr3) st3 go) fun r s4 ⟨u, hr, h4⟩ => ?_)
    subst hr
    refine wpAny_passesOwn hp (thn h4 fun _ s5 ⟨x, H5, I5, r5, y5, st5, fr5⟩ => ?_)
    have I5' := I5.pinned (stat fr5) (T.obj _ _ st5)
    refine wpAny_passesOwn hp (thn (hg _ s5 σ3 H5 x u _ I5' r5 (step x H5 y5)) fun _ s6 ⟨σ6, H6, I6, q6⟩ => ?_)
    refine wpAny_passesOwn hp (thn (hb _ s6 σ6 H6 _ I6 q6) fun f s7 q7 => ?_)
    have again : ∀ {σ7 : St} {H7 : Hp}, Inv X (pins ++ pinsAt fp s5.heap) σ7 H7 s7 → N σ7 H7 → ∃ m, m < n ∧ ∃ i σ' H', Inv X pins σ' H' s7 ∧ tn i s7.heap ∧ (∀ b ∈ fp, H' b = none) ∧ W i m σ' H' := fun {σ7 H7} I7 n7 => by
      obtain ⟨m', hm, w7⟩ := hN σ7 H7 n7
      refine ⟨m', hm, i + 1, σ7, H7, I7.unpinned, T.keep _ _ _ st5 fun b hb o e => (I7.pin (b, o) (List.mem_append_right _ (List.mem_append_right _ (mem_pinsAt hb e)))).1, fun b hb => ?_, w7⟩
      obtain ⟨o, e, d⟩ := T.obj _ _ st5 b hb
      exact (I7.pin (b, o) (List.mem_append_right _ (List.mem_append_right _ (mem_pinsAt hb e)))).2.1
    cases f with
    | next => obtain ⟨σ7, H7, I7, n7⟩ := q7; exact again I7 n7
    | cont => obtain ⟨σ7, H7, I7, n7⟩ := q7; exact again I7 n7
    | brk => obtain ⟨σ7, H7, I7, q7⟩ := q7; exact ⟨σ7, H7, I7.unpinned, q7⟩
    | ret v => obtain ⟨x7, σ7, H7, I7, r7, q7⟩ := q7; exact ⟨x7, σ7, H7, I7.unpinned, r7, q7⟩
end

/-- over a list that the body leaves as it is -/
theorem for_list {K : PySem.W.Frag} {a : Addr} {xs : List V} {g : TG} {tb : TS} {D : Ends} {σ : St} {H : Hp} (Pv : Nat → St → Hp → Prop) (h0 : Pv 0 σ H) (hl : ∀ i σ H, i ≤ xs.length → Pv i σ H → SqL K H a xs)
    (hs : ∀ i x σ H, xs[i]? = some x → Pv i σ H → g x σ H fun σ2 H2 => tb { D with nx := Pv (i + 1), ct := Pv (i + 1), bk := D.nx } σ2 H2) (hd : ∀ σ H, Pv xs.length σ H → D.nx σ H) :
    ∃ W : Nat → Nat → St → Hp → Prop, (∃ m, W 0 m σ H) ∧ ∀ i m σ H, W i m σ H →
      ((Itl K a).stop i H ∧ D.nx σ H) ∨ ((Itl K a).go i H ∧ ∃ N : St → Hp → Prop, (∀ σ' H', N σ' H' → ∃ m', m' < m ∧ W (i + 1) m' σ' H') ∧ ∀ x H', (Itl K a).yld i H x H' → g x σ H' fun σ2 H2 => tb { D with nx := N, ct := N, bk := D.nx } σ2 H2) := by
  refine ⟨fun i m σ H => m = xs.length - i ∧ i ≤ xs.length ∧ Pv i σ H, ⟨xs.length, by simp, Nat.zero_le _, h0⟩, ?_⟩
  rintro i m σ H ⟨rfl, hi, p⟩
  have q := hl i σ H hi p
  by_cases hlt : i < xs.length
  · refine .inr ⟨⟨xs, xs[i], q, by simp [hlt]⟩, Pv (i + 1), fun σ' H' p' => ⟨xs.length - (i + 1), by omega, rfl, hlt, p'⟩, fun x H' y => ?_⟩
    obtain ⟨e, y⟩ := y
    subst e
    exact hs i x σ _ (y xs q) p
  · have e : i = xs.length := by omega
    subst e
    exact .inl ⟨⟨xs, q, Nat.le_refl _⟩, hd σ H p⟩
theorem for_range {lo : Int} {n : Nat} {g : TG} {tb : TS} {D : Ends} {σ : St} {H : Hp} (Pv : Nat → St → Hp → Prop) (h0 : Pv 0 σ H)
    (hs : ∀ i σ H, i < n → Pv i σ H → g (.int (lo + i)) σ H fun σ2 H2 => tb { D with nx := Pv (i + 1), ct := Pv (i + 1), bk := D.nx } σ2 H2) (hd : ∀ σ H, Pv n σ H → D.nx σ H) :
    ∃ W : Nat → Nat → St → Hp → Prop, (∃ m, W 0 m σ H) ∧ ∀ i m σ H, W i m σ H →
      ((Itr lo n).stop i H ∧ D.nx σ H) ∨ ((Itr lo n).go i H ∧ ∃ N : St → Hp → Prop, (∀ σ' H', N σ' H' → ∃ m', m' < m ∧ W (i + 1) m' σ' H') ∧ ∀ x H', (Itr lo n).yld i H x H' → g x σ H' fun σ2 H2 => tb { D with nx := N, ct := N, bk := D.nx } σ2 H2) := by
  refine ⟨fun i m σ H => m = n - i ∧ i ≤ n ∧ Pv i σ H, ⟨n, by simp, Nat.zero_le _, h0⟩, ?_⟩
  rintro i m σ H ⟨rfl, hi, p⟩
  by_cases hlt : i < n
  · refine .inr ⟨hlt, Pv (i + 1), fun σ' H' p' => ⟨n - (i + 1), by omega, rfl, hlt, p'⟩, fun x H' y => ?_⟩
    obtain ⟨e, y⟩ := y
    subst e y
    exact hs i σ _ hlt p
  · have e : i = n := by omega
    subst e
    exact .inl ⟨Nat.le_refl _, hd σ H p⟩
end L2

namespace L2
open PySem PySem.Spec PyProof.Rows

abbrev R2 := V → V → Hp → VK → Prop
/-- a two-place operation on values: f is binaryOp op, inplaceOp op or compareOp op -/
def OpR (X : Cx) (f : Value → Value → Sem Value) (r : R2) : Prop :=
  ∀ (pins : List (Addr × Obj)) (s : Shared) (σ : St) (H : Hp) (x y : V) (v u : Value) (Q : VK), Inv X pins σ H s → RelV x v → RelV y u → r x y H Q →
    wpAny (model X.prog X.w) X.A (f v u) (EP X pins σ Q) X.xe s
/-- a one-place operation -/
def UnR (X : Cx) (f : Value → Sem Value) (r : V → Hp → VK → Prop) : Prop :=
  ∀ (pins : List (Addr × Obj)) (s : Shared) (σ : St) (H : Hp) (x : V) (v : Value) (Q : VK), Inv X pins σ H s → RelV x v → r x H Q →
    wpAny (model X.prog X.w) X.A (f v) (EP X pins σ Q) X.xe s
/-- a call of a value that is known (a builtin, a type) with values -/
def CallR (X : Cx) (f : Value) (r : List V → Hp → VK → Prop) : Prop :=
  ∀ (pins : List (Addr × Obj)) (s : Shared) (σ : St) (H : Hp) (xs : List V) (us : List Value) (Q : VK), Inv X pins σ H s → Vals xs us → r xs H Q →
    wpAny (model X.prog X.w) X.A (call f us) (EP X pins σ Q) X.xe s
def tOp (r : R2) (ta tb : TE) : TE := fun σ H Q => ta σ H fun x H1 => tb σ H1 fun y H2 => r x y H2 Q
def tUn (r : V → Hp → VK → Prop) (ta : TE) : TE := fun σ H Q => ta σ H fun x H1 => r x H1 Q
/-- ints in, under C, and a value out -/
def rI (C : Int → Int → Prop) (g : Int → Int → V) : R2 := fun x y H Q => ∃ i j, x = .int i ∧ y = .int j ∧ C i j ∧ Q (g i j) H
def rI0 (g : Int → Int → V) : R2 := fun x y H Q => ∃ i j, x = .int i ∧ y = .int j ∧ Q (g i j) H
def rU (g : Int → V) : V → Hp → VK → Prop := fun x H Q => ∃ i, x = .int i ∧ Q (g i) H

section
variable {X : Cx} {a b c : Expr} {ta tb tc : TE} {pos : Pos}

theorem binT (ha : PE X a ta) (hb : PE X b tb) {pins : List (Addr × Obj)} {s : Shared} {σ : St} {H : Hp} {R : V → V → Hp → Prop} (I : Inv X pins σ H s)
    (h : ta σ H fun x H1 => tb σ H1 fun y H2 => R x y H2) {Q : Value → Shared → Prop} {f : Value → Value → Sem Value}
    (hf : ∀ v u s2 x y H2, Inv X pins σ H2 s2 → RelV x v → RelV y u → R x y H2 → wpAny (model X.prog X.w) X.A (f v u) Q X.xe s2) :
    wpAny (model X.prog X.w) X.A (eval a X.env) (fun v s₁ => wpAny (model X.prog X.w) X.A (eval b X.env) (fun u s₂ => wpAny (model X.prog X.w) X.A (f v u) Q X.xe s₂) X.xe s₁) X.xe s := by
  refine thn (ha pins s σ H _ I h) fun v s1 ⟨x, H1, I1, r1, q1⟩ => ?_
  refine thn (hb pins s1 σ H1 _ I1 q1) fun u s2 ⟨y, H2, I2, r2, q2⟩ => ?_
  exact hf v u s2 x y H2 I2 r1 r2 q2

theorem pe_op {op : Operator} {r : R2} (ho : OpR X (binaryOp op) r) (ha : PE X a ta) (hb : PE X b tb) : PE X (.BinOp a op b pos) (tOp r ta tb) := by
  intro pins s σ H Q I h
  exact wpAny_BinOp (binT ha hb I h fun v u s2 x y H2 I2 rx ry q => ho pins s2 σ H2 x y v u Q I2 rx ry q)
theorem pe_un {op : UnaryOp} {r : V → Hp → VK → Prop} (ho : UnR X (unaryOp op) r) (ha : PE X a ta) : PE X (.UnaryOp op a pos) (tUn r ta) := by
  intro pins s σ H Q I h
  exact UnaryOp_ (thn (ha pins s σ H _ I h) fun v s1 ⟨x, H1, I1, r1, q1⟩ => ho pins s1 σ H1 x v Q I1 r1 q1)
theorem opI {f : Value → Value → Sem Value} {C : Int → Int → Prop} {g : Int → Int → Int}
    (rule : ∀ (i j : Int) (t u : Tok) (s : Shared) (Q : Value → Shared → Prop) (E : Value → Shared → Prop), C i j → Q (.int (g i j) s.toks) { s with toks := s.toks + 1 } → wpAny (model X.prog X.w) X.A (f (.int i t) (.int j u)) Q E s) :
    OpR X f (rI C fun i j => .int (g i j)) := by
  intro pins s σ H x y v u Q I rx ry h
  obtain ⟨i, j, rfl, rfl, hc, q⟩ := h
  obtain ⟨t, rfl⟩ := rx
  obtain ⟨t', rfl⟩ := ry
  exact rule i j t t' s _ _ hc ⟨.int (g i j), H, I.tok _, ⟨_, rfl⟩, q⟩
theorem opI0 {f : Value → Value → Sem Value} {g : Int → Int → Int}
    (rule : ∀ (i j : Int) (t u : Tok) (s : Shared) (Q : Value → Shared → Prop) (E : Value → Shared → Prop), Q (.int (g i j) s.toks) { s with toks := s.toks + 1 } → wpAny (model X.prog X.w) X.A (f (.int i t) (.int j u)) Q E s) :
    OpR X f (rI0 fun i j => .int (g i j)) := by
  intro pins s σ H x y v u Q I rx ry h
  obtain ⟨i, j, rfl, rfl, q⟩ := h
  obtain ⟨t, rfl⟩ := rx
  obtain ⟨t', rfl⟩ := ry
  exact rule i j t t' s _ _ ⟨.int (g i j), H, I.tok _, ⟨_, rfl⟩, q⟩
theorem opB0 {f : Value → Value → Sem Value} {g : Int → Int → Bool}
    (rule : ∀ (i j : Int) (t u : Tok) (s : Shared) (Q : Value → Shared → Prop) (E : Value → Shared → Prop), Q (.bool (g i j)) s → wpAny (model X.prog X.w) X.A (f (.int i t) (.int j u)) Q E s) :
    OpR X f (rI0 fun i j => .bl (g i j)) := by
  intro pins s σ H x y v u Q I rx ry h
  obtain ⟨i, j, rfl, rfl, q⟩ := h
  obtain ⟨t, rfl⟩ := rx
  obtain ⟨t', rfl⟩ := ry
  exact rule i j t t' s _ _ ⟨.bl (g i j), H, I, rfl, q⟩

def CDiv (i j : Int) : Prop := 0 < j ∧ j < 1073741824
def CMul (i j : Int) : Prop := (-(2 ^ 64) < i ∧ i < 2 ^ 64) ∨ (-(2 ^ 64) < j ∧ j < 2 ^ 64)
theorem CMul.ok {i j : Int} (h : CMul i j) : IntMulOk i j := by
  rcases h with ⟨h1, h2⟩ | ⟨h1, h2⟩
  · exact .of_left (intBits_le_64 h1 h2)
  · exact .of_right (intBits_le_64 h1 h2)
theorem two_pow_nn (k : Nat) : (0 : Int) ≤ 2 ^ k := by
  rw [two_pow_cast]
  exact Int.natCast_nonneg _

theorem op_add : OpR X (binaryOp .Add) (rI0 fun i j => .int (i + j)) := opI0 fun _ _ _ _ _ _ _ q => add_int q
theorem op_mul : OpR X (binaryOp .Mult) (rI CMul fun i j => .int (i * j)) := opI fun _ _ _ _ _ _ _ hc q => mul_int q hc.ok
/-- // by a positive divisor -/
theorem op_fdiv : OpR X (binaryOp .FloorDiv) (rI CDiv fun i j => .int (i / j)) := opI fun i j _ _ _ _ _ hc q => by
  have h1 : (0 : Int) < j := hc.1
  have h2 : j < 1073741824 := hc.2
  exact floordiv_int (by omega) (by rw [Int.fdiv_eq_ediv_of_nonneg i (by omega)]; exact q) (.inl (PyProof.noPylong_small (by omega)))
/-- % by a positive divisor of any size -/
theorem op_mod : OpR X (binaryOp .Mod) (rI (fun _ j => 0 < j) fun i j => .int (i % j)) := opI fun i j _ _ _ _ _ hc q => by
  have h1 : (0 : Int) < j := hc
  exact mod_int' (by omega) (by rw [Int.fmod_eq_emod_of_nonneg i (by omega)]; exact q)
theorem op_shr : OpR X (binaryOp .RShift) (rI (fun _ j => 0 ≤ j) fun i j => .int (i / 2 ^ j.toNat)) := opI fun i j _ _ _ _ _ hc q =>
  rshift_int hc (by rw [Int.fdiv_eq_ediv_of_nonneg i (two_pow_nn _)]; exact q)
theorem op_and : OpR X (binaryOp .BitAnd) (rI0 fun i j => .int (Builtin.bitAnd i j)) := opI0 fun _ _ _ _ _ _ _ q => and_int q
theorem unI {f : Value → Sem Value} {g : Int → Int}
    (rule : ∀ (i : Int) (t : Tok) (s : Shared) (Q : Value → Shared → Prop) (E : Value → Shared → Prop), Q (.int (g i) s.toks) { s with toks := s.toks + 1 } → wpAny (model X.prog X.w) X.A (f (.int i t)) Q E s) :
    UnR X f (rU fun i => .int (g i)) := by
  intro pins s σ H x v Q I rx h
  obtain ⟨i, rfl, q⟩ := h
  obtain ⟨t, rfl⟩ := rx
  exact rule i t s _ _ ⟨.int (g i), H, I.tok _, ⟨_, rfl⟩, q⟩
theorem un_neg : UnR X (unaryOp .USub) (rU fun i => .int (-i)) := unI fun _ _ _ _ _ q => neg_int q
end

/-- the scalars that == tells apart as data does -/
def scal : V → V → Bool
  | .non, .non => true | .non, .int _ => true | .int _, .non => true | .non, .bl _ => true | .bl _, .non => true | .non, .str _ => true | .str _, .non => true
  | .int _, .int _ => true | .bl _, .bl _ => true | .str _, .str _ => true | .byt _, .byt _ => true
  | .int _, .str _ => true | .str _, .int _ => true | .bl _, .str _ => true | .str _, .bl _ => true
  | _, _ => false
def rEq : R2 := fun x y H Q => scal x y = true ∧ Q (.bl (decide (x = y))) H
def rNe : R2 := fun x y H Q => scal x y = true ∧ Q (.bl (!decide (x = y))) H

theorem dec_int {i j : Int} : decide (V.int i = V.int j) = (i == j) := by
  rw [Bool.eq_iff_iff]
  simp
theorem dec_bl {i j : Bool} : decide (V.bl i = V.bl j) = (i == j) := by
  rw [Bool.eq_iff_iff]
  simp
theorem dec_str {i j : Str} : decide (V.str i = V.str j) = (i == j) := by
  rw [Bool.eq_iff_iff]
  simp
theorem dec_byt {i j : Array UInt8} : decide (V.byt i = V.byt j) = (i.toList == j.toList) := by
  rw [Bool.eq_iff_iff]
  cases i
  cases j
  simp

section
variable {X : Cx} {a b c : Expr} {ta tb tc : TE} {pos : Pos}
theorem fin_bl {pins : List (Addr × Obj)} {σ : St} {H : Hp} {s : Shared} {Q : VK} {k k' : Bool} (I : Inv X pins σ H s) (q : Q (.bl k) H) (e : k = k') : EP X pins σ Q (.bool k') s := by
  subst e
  exact ⟨.bl k, H, I, rfl, q⟩
theorem op_eq : OpR X (compareOp .Eq) rEq := by
  intro pins s σ H x y v u Q I rx ry h
  obtain ⟨hs, q⟩ := h
  cases x with
  | non =>
    cases rx
    cases y with
    | non => cases ry; exact PySem.EqNone.eq_none_none (fin_bl I q (by simp))
    | bl j => cases ry; exact PySem.EqNone.eq_none_bool (fin_bl I q (by simp))
    | int j => obtain ⟨t', rfl⟩ := ry; exact PySem.EqNone.eq_none_int (fin_bl I q (by simp))
    | str j => obtain ⟨t', rfl⟩ := ry; exact PySem.EqNone.eq_none_str (fin_bl I q (by simp))
    | _ => exact absurd (show false = true from hs) Bool.false_ne_true
  | bl i =>
    cases rx
    cases y with
    | non => cases ry; exact PySem.EqNone.eq_bool_none (fin_bl I q (by simp))
    | bl j => cases ry; exact eq_bool (fin_bl I q dec_bl)
    | str j => obtain ⟨t', rfl⟩ := ry; exact PySem.EqMixed.eq_bool_str (fin_bl I q (by simp))
    | _ => exact absurd (show false = true from hs) Bool.false_ne_true
  | int i =>
    obtain ⟨t, rfl⟩ := rx
    cases y with
    | non => cases ry; exact PySem.EqNone.eq_int_none (fin_bl I q (by simp))
    | int j => obtain ⟨t', rfl⟩ := ry; exact eq_int (fin_bl I q dec_int)
    | str j => obtain ⟨t', rfl⟩ := ry; exact PySem.EqMixed.eq_int_str (fin_bl I q (by simp))
    | _ => exact absurd (show false = true from hs) Bool.false_ne_true
  | str i =>
    obtain ⟨t, rfl⟩ := rx
    cases y with
    | non => cases ry; exact PySem.EqNone.eq_str_none (fin_bl I q (by simp))
    | bl j => cases ry; exact PySem.EqMixed.eq_str_bool (fin_bl I q (by simp))
    | int j => obtain ⟨t', rfl⟩ := ry; exact PySem.EqMixed.eq_str_int (fin_bl I q (by simp))
    | str j => obtain ⟨t', rfl⟩ := ry; exact eq_str (fin_bl I q dec_str)
    | _ => exact absurd (show false = true from hs) Bool.false_ne_true
  | byt i =>
    obtain ⟨t, rfl⟩ := rx
    cases y with
    | byt j => obtain ⟨t', rfl⟩ := ry; exact PySem.W.eq_bytes (fin_bl I q dec_byt)
    | _ => exact absurd (show false = true from hs) Bool.false_ne_true
  | _ => cases y <;> exact absurd (show false = true from hs) Bool.false_ne_true
theorem op_ne : OpR X (compareOp .NotEq) rNe := by
  intro pins s σ H x y v u Q I rx ry h
  obtain ⟨hs, q⟩ := h
  cases x with
  | non =>
    cases rx
    cases y with
    | non => cases ry; exact PySem.EqNone.ne_none_none (fin_bl I q (by simp))
    | bl j => cases ry; exact PySem.EqNone.ne_none_bool (fin_bl I q (by simp))
    | int j => obtain ⟨t', rfl⟩ := ry; exact PySem.EqNone.ne_none_int (fin_bl I q (by simp))
    | str j => obtain ⟨t', rfl⟩ := ry; exact PySem.EqNone.ne_none_str (fin_bl I q (by simp))
    | _ => exact absurd (show false = true from hs) Bool.false_ne_true
  | bl i =>
    cases rx
    cases y with
    | non => cases ry; exact PySem.EqNone.ne_bool_none (fin_bl I q (by simp))
    | bl j => cases ry; exact ne_bool (fin_bl I q (congrArg not dec_bl))
    | str j => obtain ⟨t', rfl⟩ := ry; exact PySem.EqMixed.ne_bool_str (fin_bl I q (by simp))
    | _ => exact absurd (show false = true from hs) Bool.false_ne_true
  | int i =>
    obtain ⟨t, rfl⟩ := rx
    cases y with
    | non => cases ry; exact PySem.EqNone.ne_int_none (fin_bl I q (by simp))
    | int j => obtain ⟨t', rfl⟩ := ry; exact ne_int (fin_bl I q (congrArg not dec_int))
    | str j => obtain ⟨t', rfl⟩ := ry; exact PySem.EqMixed.ne_int_str (fin_bl I q (by simp))
    | _ => exact absurd (show false = true from hs) Bool.false_ne_true
  | str i =>
    obtain ⟨t, rfl⟩ := rx
    cases y with
    | non => cases ry; exact PySem.EqNone.ne_str_none (fin_bl I q (by simp))
    | bl j => cases ry; exact PySem.EqMixed.ne_str_bool (fin_bl I q (by simp))
    | int j => obtain ⟨t', rfl⟩ := ry; exact PySem.EqMixed.ne_str_int (fin_bl I q (by simp))
    | str j => obtain ⟨t', rfl⟩ := ry; exact ne_str (fin_bl I q (congrArg not dec_str))
    | _ => exact absurd (show false = true from hs) Bool.false_ne_true
  | byt i =>
    obtain ⟨t, rfl⟩ := rx
    cases y with
    | byt j => obtain ⟨t', rfl⟩ := ry; exact PySem.W.ne_bytes (fin_bl I q (congrArg not dec_byt))
    | _ => exact absurd (show false = true from hs) Bool.false_ne_true
  | _ => cases y <;> exact absurd (show false = true from hs) Bool.false_ne_true

theorem op_lt : OpR X (compareOp .Lt) (rI0 fun i j => .bl (decide (i < j))) := opB0 fun _ _ _ _ _ _ _ q => lt_int q
theorem op_le : OpR X (compareOp .LtE) (rI0 fun i j => .bl (decide (i ≤ j))) := opB0 fun _ _ _ _ _ _ _ q => le_int q
theorem op_gt : OpR X (compareOp .Gt) (rI0 fun i j => .bl (decide (j < i))) := opB0 fun _ _ _ _ _ _ _ q => gt_int q
theorem op_notN : OpR X (compareOp .IsNot) (fun x y H Q => y = .non ∧ Q (.bl (!decide (x = .non))) H) := by
  intro pins s σ H x y v u Q I rx ry h
  obtain ⟨rfl, q⟩ := h
  cases ry
  refine isnot_none_gen (fin_bl I q ?_)
  cases x <;> first
    | (cases rx; rfl)
    | (obtain ⟨t, rfl⟩ := rx; rfl)

/-- two rules for one operation: by cases -/
theorem OpR.or {f : Value → Value → Sem Value} {r r' : R2} (h : OpR X f r) (h' : OpR X f r') : OpR X f (fun x y H Q => r x y H Q ∨ r' x y H Q) := by
  intro pins s σ H x y v u Q I rx ry q
  rcases q with q | q
  · exact h pins s σ H x y v u Q I rx ry q
  · exact h' pins s σ H x y v u Q I rx ry q

theorem nomark (b : Expr) {op : CmpOp} (h : op ≠ .In := by decide) (h2 : op ≠ .NotIn := by decide) : behindInMarks op b = false := by
  have e1 : (op == CmpOp.In) = false := by cases op <;> first | rfl | exact absurd rfl h
  have e2 : (op == CmpOp.NotIn) = false := by cases op <;> first | rfl | exact absurd rfl h2
  cases b <;> simp [behindInMarks, e1, e2]
/-- a comparison as a value; hm: nomark b, or (for in, not in) by with_unfolding_all rfl -/
theorem pe_cmpR {op : CmpOp} {r : R2} (ho : OpR X (compareOp op) r) (ha : PE X a ta) (hb : PE X b tb) (hm : behindInMarks op b = false) : PE X (.Compare a [op] [b] pos) (tOp r ta tb) := by
  intro pins s σ H Q I h
  exact wpAny_Compare1 (binT ha hb I h fun v u s2 x y H2 I2 rx ry q => ho pins s2 σ H2 x y v u Q I2 rx ry q) hm
/-- a reading of a value as a test -/
def tTest (t : TE) : TT := fun σ H Q => t σ H fun x H' => ∃ k, x = .bl k ∧ Q k H'
theorem pt_cmpR {op : CmpOp} {r : R2} (ho : OpR X (compareOp op) r) (ha : PE X a ta) (hb : PE X b tb) (hm : behindInMarks op b = false) : PT X (.Compare a [op] [b] pos) (tTest (tOp r ta tb)) := by
  intro pins s σ H Q I h
  refine wpAny_isTrue_Compare1 (thn (ha pins s σ H _ I h) fun v s1 ⟨x, H1, I1, r1, q1⟩ => thn (hb pins s1 σ H1 _ I1 q1) fun u s2 ⟨y, H2, I2, r2, q2⟩ =>
    thn (ho pins s2 σ H2 x y v u _ I2 r1 r2 q2) fun c s3 ⟨z, H3, I3, r3, k, e, q3⟩ => ?_) hm
  subst e
  cases r3
  exact wpAny_truthy_bool ⟨H3, I3, q3⟩
/-- a op1 b op2 c -/
def tChain (r r' : R2) (ta tb tc : TE) : TE := fun σ H Q => ta σ H fun x H1 => tb σ H1 fun y H2 => r x y H2 fun z H3 => ∃ k, z = .bl k ∧
  (if k = true then tc σ H3 fun w' H4 => r' y w' H4 Q else Q (.bl false) H3)
theorem pe_chain {op op' : CmpOp} {r r' : R2} (ho : OpR X (compareOp op) r) (ho' : OpR X (compareOp op') r') (ha : PE X a ta) (hb : PE X b tb) (hc : PE X c tc)
    (hm : lastMarks [op, op'] [b, c] = false := by with_unfolding_all rfl) : PE X (.Compare a [op, op'] [b, c] pos) (tChain r r' ta tb tc) := by
  intro pins s σ H Q I h
  refine Compare_chain (thn (ha pins s σ H _ I h) fun v s1 ⟨x, H1, I1, r1, q1⟩ => chain_link (thn (hb pins s1 σ H1 _ I1 q1) fun u s2 ⟨y, H2, I2, r2, q2⟩ =>
    thn (ho pins s2 σ H2 x y v u _ I2 r1 r2 q2) fun d s3 ⟨z, H3, I3, r3, k, e, q3⟩ => ?_)) hm
  subst e
  cases r3
  refine wpAny_truthy_bool ?_
  cases k with
  | false => exact ite_ff ⟨.bl false, H3, I3, rfl, q3⟩
  | true => exact ite_tt (chain_last (thn (hc pins s3 σ H3 _ I3 q3) fun w' s4 ⟨z', H4, I4, r4, q4⟩ => ho' pins s4 σ H4 y z' u w' Q I4 r2 r4 q4))
theorem line63 : (sizeLine : Nat) < 2 ^ 63 := by rw [sizeLine_eq]; decide
theorem op_add_str : OpR X (binaryOp .Add) (fun x y H Q => ∃ i j, x = .str i ∧ y = .str j ∧ i.length + j.length ≤ sizeLine ∧ Q (.str (i ++ j)) H) := by
  intro pins s σ H x y v u Q I rx ry h
  obtain ⟨i, j, rfl, rfl, hz, q⟩ := h
  obtain ⟨t, rfl⟩ := rx
  obtain ⟨t', rfl⟩ := ry
  exact add_str (fun t' tk => ⟨.str (i ++ j), H, I.tok _, ⟨_, rfl⟩, q⟩) hz
theorem vals1 {x : V} {us : List Value} (r : Vals [x] us) : ∃ u, us = [u] ∧ RelV x u := by
  cases r with
  | cons r1 r2 => cases r2; exact ⟨_, rfl, r1⟩
theorem vals2 {x y : V} {us : List Value} (r : Vals [x, y] us) : ∃ u w', us = [u, w'] ∧ RelV x u ∧ RelV y w' := by
  cases r with
  | cons r1 r2 =>
    cases r2 with
    | cons r3 r4 => cases r4; exact ⟨_, _, rfl, r1, r3⟩
end
end L2

namespace L2
open PySem PySem.Spec PyProof.Rows

structure ObjM (h : Heap) (x dx C : Addr) (mA : Str → Option Value) : Prop where
  obj : h.get? x = some (PySem.W.instObj C dx)
  ns : h.Ns1 dx mA
  ne : dx ≠ x

theorem lookIn_ns {h : Heap} {dx : Addr} {mA : Str → Option Value} (n : h.Ns1 dx mA) : ∃ od, h.get? dx = some od ∧ ∀ name, PySem.W.lookIn name od = some (mA name) := by
  obtain ⟨o, es, ep, ho, hd, hk, _, hm⟩ := n
  refine ⟨o, ho, fun name => ?_⟩
  have e := hm name
  unfold nsFind findBy at e
  rw [← Array.find?_toList] at e
  unfold PySem.W.lookIn
  rw [hd]
  dsimp only
  split
  · rename_i y q
    rw [q] at e
    exact congrArg some e
  · rename_i q
    rw [q] at e
    have a : es.toList.any (·.refKey) = false := by
      rw [List.any_eq_false]
      intro y hy
      obtain ⟨z, t, hkey⟩ := hk y (Array.mem_toList_iff.mp hy)
      simp [DictEntry.refKey, hkey]
    have a' : ¬ es.toList.any (·.refKey) = true := by rw [a]; exact Bool.false_ne_true
    rw [if_neg a']
    exact congrArg some e

theorem ObjM.look {h : Heap} {x dx C : Addr} {mA : Str → Option Value} (I : ObjM h x dx C mA) : ∃ od, PySem.W.InstAt h x (PySem.W.instObj C dx) C (some od) ∧ ∀ name, PySem.W.lookIn name od = some (mA name) :=
  let ⟨od, ho, hl⟩ := lookIn_ns I.ns
  ⟨od, ⟨I.obj, rfl, rfl, ho⟩, hl⟩

section
variable {prog : Program} {w : World} {A : Around} {E : Value → Shared → Prop} {s : Shared} {K : PySem.W.Frag} {x dx C f : Addr} {mA : Str → Option Value} {name : Str} {v : Value}

theorem get_map {expr : Bool} {Q : Value → Shared → Prop} (X : K.In s.heap) (I : ObjM s.heap x dx C mA) (hg : PySem.W.plainGet K C name = true) (hh : PySem.W.hasDictIn K C = true)
    (ha : PySem.W.findIn K (.ref C) name = some none) (hv : mA name = some v) (hv' : PySem.W.handedIn v = true) (h : Q v { s with toks := s.toks + 1 }) :
    wpAny (model prog w) A (getAttr (.ref x) name expr) Q E s := by
  obtain ⟨od, J, hl⟩ := I.look
  exact PySem.W.get_value X J (PySem.W.plainGet_of hg).1 (PySem.W.findObj_own hh ha rfl (by rw [hl, hv])) hv' h

theorem get_meth {pl : Sem Bool} {Q : Value × List Value → Shared → Prop} (X : K.In s.heap) (I : ObjM s.heap x dx C mA) (hg : PySem.W.plainGet K C name = true)
    (hf : PySem.W.findIn K (.ref C) name = some (some (.ref f))) (ht : PySem.W.isFn K (.ref f) = true) (hv : mA name = none) (h : Q (.ref f, [.ref x]) s) :
    wpAny (model prog w) A (getMethod (.ref x) name pl) Q E s := by
  obtain ⟨od, J, hl⟩ := I.look
  exact PySem.W.method_fn X J (PySem.W.plainGet_of hg).1 (PySem.W.plainGet_of hg).2 hf (beq_iff_eq.mp ht) (by show (PySem.W.lookIn name od).map (·.isSome) = some false; rw [hl, hv]; rfl) h

theorem set_map {ns : List Str} {Q : Unit → Shared → Prop} (X : K.In s.heap) (I : ObjM s.heap x dx C mA)
    (hs : PySem.W.findIn K (.ref C) "__setattr__" = some (some (.builtin "object.__setattr__"))) (hp : PySem.W.plainOver K C = true) (ht : PySem.W.takerIn K C name = some none) (hh : PySem.W.hasDictIn K C = true)
    (hw : PySem.Within mA ns) (hsz : ns.length ≤ sizeLine)
    (h : ∀ h', ObjM h' x dx C (fun y => if y = name then some v else mA y) → Heap.SameBut dx s.heap h' → Q () { s with heap := h', toks := s.toks + 2 }) :
    wpAny (model prog w) A (setAttr (.ref x) name v) Q E s := by
  obtain ⟨od, J, hl⟩ := I.look
  refine PySem.W.set_plain X J hs (PySem.W.osa_open (s := { s with toks := s.toks + 1 }) (r := none) X J hp ht fun b => ?_)
  obtain ⟨cd, hc, hd'⟩ := PySem.W.any_some hh
  have hx : s.heap.get? x = some ⟨.ref C, some dx, .plain, #[]⟩ := I.obj
  refine wpAny_bind (wpAny_pure (wpAny_bind (wpAny_bind (wpAny_loadPart hx (wpAny_bind (PySem.W.Looks.here (s := { s with toks := s.toks + 1 }) (PySem.W.looks_clsIn X hc) ?_))))))
  rw [hd']
  refine wpAny_pure (a := some dx) (wpAny_bind (wpAny_pure (wpAny_bind ?_)))
  refine wpAny_nsSet1 (s := { s with toks := s.toks + 1 }) I.ns fun h' hn2 hs2 => ?_
  obtain ⟨oD, esD, epD, hoD, hdD, hcD⟩ := hn2.count (PySem.Within.cons name v hw)
  refine wpAny_bind (wpAny_lookBehind hoD (by rw [hdD]; exact pastItsLine_dict (Nat.le_trans hcD (by rw [List.length_cons]; omega))) ?_)
  exact wpAny_pure (h _ ⟨(hs2.2 _ (Ne.symm I.ne)).trans I.obj, hn2, I.ne⟩ hs2)

/-- C(..): the dict at the heap's end, the instance behind it; then its __init__ -/
theorem make_map {R : Result → Shared → Prop} {vs : List Value} {kw : List (Str × Value)} (X : K.In s.heap) (hm : PySem.W.makesIn K C = true)
    (hi : PySem.W.findIn K (.ref C) "__init__" = some (some (.ref f))) (hf : PySem.W.typeIn K (.ref f) = some (.type "function"))
    (h : codeAny (model prog w) (A.under (.builtin "type.__call__" ⟨.ref C :: vs, kw⟩)) (.call (.ref f) ⟨.ref (s.heap.objs.size + 1) :: vs, kw⟩) (PySem.W.InitBack (s.heap.objs.size + 1) R)
      { s with heap := (s.heap.push PySem.W.emptyDict).push (PySem.W.instObj C s.heap.objs.size) }) :
    codeAny (model prog w) A (.call (.ref C) ⟨vs, kw⟩) R s := by
  obtain ⟨hh, g, d, t, os⟩ := s
  exact PySem.W.make_core (PySem.W.makes_of X hm) (PySem.W.looks_findIn X hi) (fun self => PySem.W.bind_fn X self hf) (.inl rfl) h
end

def putF (f : Str) (v : V) : List (Str × V) → List (Str × V)
  | [] => [(f, v)]
  | (g, x) :: r => if g = f then (g, v) :: r else (g, x) :: putF f v r
theorem lookup_putF (f g : Str) (v : V) : ∀ fs : List (Str × V), (putF f v fs).lookup g = if g = f then some v else fs.lookup g
  | [] => by
    show List.lookup g [(f, v)] = _
    by_cases h : g = f
    · have hb : (g == f) = true := beq_iff_eq.mpr h
      simp only [List.lookup, hb, if_pos h]
    · have hb : (g == f) = false := beq_eq_false_iff_ne.mpr h
      simp only [List.lookup, hb, if_neg h]
  | (k, x) :: r => by
    have ih := lookup_putF f g v r
    rw [show putF f v ((k, x) :: r) = (if k = f then (k, v) :: r else (k, x) :: putF f v r) from rfl]
    by_cases hk : k = f
    · rw [if_pos hk]
      by_cases h : g = k
      · have hb : (g == k) = true := beq_iff_eq.mpr h
        simp only [List.lookup, hb, if_pos (h.trans hk)]
      · have hb : (g == k) = false := beq_eq_false_iff_ne.mpr h
        simp only [List.lookup, hb, if_neg (fun e : g = f => h (e.trans hk.symm))]
    · rw [if_neg hk]
      by_cases h : g = k
      · have hb : (g == k) = true := beq_iff_eq.mpr h
        simp only [List.lookup, hb, if_neg (fun e : g = f => hk (h.symm.trans e))]
      · have hb : (g == k) = false := beq_eq_false_iff_ne.mpr h
        simp only [List.lookup, hb]
        exact ih
theorem keys_putF (f : Str) (v : V) : ∀ fs : List (Str × V), f ∈ (putF f v fs).map (·.1) ∧ ∀ g, g ∈ fs.map (·.1) → g ∈ (putF f v fs).map (·.1)
  | [] => ⟨by simp [putF], fun g h => by simp at h⟩
  | (k, x) :: r => by
    obtain ⟨i1, i2⟩ := keys_putF f v r
    rw [show putF f v ((k, x) :: r) = (if k = f then (k, v) :: r else (k, x) :: putF f v r) from rfl]
    by_cases hk : k = f
    · rw [if_pos hk]
      subst hk
      exact ⟨by simp, fun g h => by simpa using h⟩
    · rw [if_neg hk]
      refine ⟨?_, fun g h => ?_⟩
      · rw [List.map_cons]
        exact List.mem_cons_of_mem _ i1
      · rw [List.map_cons] at h ⊢
        rcases List.mem_cons.mp h with e | e
        · exact List.mem_cons.mpr (.inl e)
        · exact List.mem_cons_of_mem _ (i2 g e)
theorem length_putF (f : Str) (v : V) : ∀ fs : List (Str × V), (putF f v fs).length ≤ fs.length + 1
  | [] => by simp [putF]
  | (k, x) :: r => by
    have ih := length_putF f v r
    rw [show putF f v ((k, x) :: r) = (if k = f then (k, v) :: r else (k, x) :: putF f v r) from rfl]
    by_cases hk : k = f
    · rw [if_pos hk, List.length_cons, List.length_cons]; omega
    · rw [if_neg hk, List.length_cons, List.length_cons]; omega

theorem RelO.some_of {v : V} {o : Option Value} (r : RelO (some v) o) : ∃ u, o = some u ∧ RelV v u := by
  cases o with
  | none => exact (show False from r).elim
  | some u => exact ⟨u, rfl, r⟩
theorem RelO.none_of {o : Option Value} (r : RelO none o) : o = none := by
  cases o with
  | none => rfl
  | some u => exact (show False from r).elim
theorem handed_of {v : V} {u : Value} (r : RelV v u) : PySem.W.handedIn u = true := by
  cases v with
  | non => cases (show u = Value.none from r); rfl
  | bl b => cases (show u = Value.bool b from r); rfl
  | int i => obtain ⟨t, e⟩ := (show ∃ t, u = Value.int i t from r); cases e; rfl
  | str x => obtain ⟨t, e⟩ := (show ∃ t, u = Value.str x t from r); cases e; rfl
  | byt b => obtain ⟨t, e⟩ := (show ∃ t, u = Value.bytes b t from r); cases e; rfl
  | flt b => obtain ⟨t, e⟩ := (show ∃ t, u = Value.float b t from r); cases e; rfl
  | ref a => cases (show u = Value.ref a from r); rfl
  | ty n => cases (show u = Value.type n from r); rfl

section
variable {P : Program} {w : World} {H H' : Hp} {h h' : Heap} {a C dx : Addr} {fs fs' : List (Str × V)}
theorem ins_get (hok : HOk P w H h) (e : H a = some (.ins C dx fs)) : ∃ mA, ObjM h a dx C mA ∧ (∀ f, RelO (fs.lookup f) (mA f)) ∧ PySem.Within mA (fs.map (·.1)) ∧ fs.length ≤ 1000 ∧ H dx = some (.own a) := by
  obtain ⟨d, z, ne, ob, mA, n, r, q⟩ := (show ObjOk P w H h a (.ins C dx fs) from hok a _ e)
  exact ⟨mA, ⟨ob, n, ne⟩, r, q, z, d⟩
end

structure Cls (K : PySem.W.Frag) (C : Addr) : Prop where
  pg : PySem.W.plainGet K C Str.empty = true
  hd : PySem.W.hasDictIn K C = true
  po : PySem.W.plainOver K C = true
  sa : PySem.W.findIn K (.ref C) "__setattr__" = some (some (.builtin "object.__setattr__"))
theorem Cls.get {K : PySem.W.Frag} {C : Addr} (c : Cls K C) (f : Str) : PySem.W.plainGet K C f = true := c.pg
/-- no class of it has the name -/
def NoAttr (K : PySem.W.Frag) (C : Addr) (f : Str) : Prop := PySem.W.findIn K (.ref C) f = some none
theorem NoAttr.taker {K : PySem.W.Frag} {C : Addr} {f : Str} (n : NoAttr K C f) : PySem.W.takerIn K C f = some none := by
  unfold PySem.W.takerIn
  rw [show PySem.W.findIn K (.ref C) f = some none from n]
  rfl
/-- a constant of the class -/
structure Con (K : PySem.W.Frag) (C : Addr) (f : Str) (v : V) (u : Value) : Prop where
  at_ : PySem.W.findIn K (.ref C) f = some (some u)
  rel : RelV v u
  get : PySem.W.specialIn K u "__get__" = some none
  cp : PySem.W.copiedNames.contains f = false
/-- a method: a plain def of the class or of one above it -/
structure Meth (K : PySem.W.Frag) (C : Addr) (m : Str) (f : Addr) : Prop where
  at_ : PySem.W.findIn K (.ref C) m = some (some (.ref f))
  fn : PySem.W.isFn K (.ref f) = true
  kp : PySem.W.keepIn K (.ref f) = true

section
variable {X : Cx} {pins : List (Addr × Obj)} {σ : St} {H : Hp} {s : Shared} {a C dx : Addr} {fs : List (Str × V)} {f : Str} {v : V} {A : Around} {E : Value → Shared → Prop}

theorem getattr_ok {b : Bool} {Q : Value → Shared → Prop} (I : Inv X pins σ H s) (e : H a = some (.ins C dx fs)) (c : Cls X.K C) (n : NoAttr X.K C f) (l : fs.lookup f = some v)
    (h : ∀ u s', Inv X pins σ H s' → RelV v u → Q u s') : wpAny (model X.prog X.w) A (getAttr (.ref a) f b) Q E s := by
  obtain ⟨mA, O, r, _, _, _⟩ := ins_get I.hok e
  obtain ⟨u, hu, ru⟩ := RelO.some_of (v := v) (o := mA f) (by rw [← l]; exact r f)
  exact get_map I.kIn O (c.get f) c.hd n hu (handed_of ru) (h u _ (I.tok _) ru)

theorem getmeth_ok {m : Str} {g : Addr} {pl : Sem Bool} {Q : Value × List Value → Shared → Prop} (I : Inv X pins σ H s) (e : H a = some (.ins C dx fs)) (c : Cls X.K C) (k : Meth X.K C m g) (l : fs.lookup m = none)
    (h : Q (.ref g, [.ref a]) s) : wpAny (model X.prog X.w) A (getMethod (.ref a) m pl) Q E s := by
  obtain ⟨mA, O, r, _, _, _⟩ := ins_get I.hok e
  have hn : mA m = none := RelO.none_of (by rw [← l]; exact r m)
  exact get_meth I.kIn O (c.get m) k.at_ k.fn hn h

theorem setattr_ok {y : V} {u : Value} {Q : Unit → Shared → Prop} (I : Inv X pins σ H s) (e : H a = some (.ins C dx fs)) (c : Cls X.K C) (n : NoAttr X.K C f) (hl : fs.length < 1000) (ry : RelV y u)
    (h : ∀ s', Inv X pins σ (upd H a (.ins C dx (putF f y fs))) s' → Q () s') : wpAny (model X.prog X.w) A (setAttr (.ref a) f u) Q E s := by
  obtain ⟨mA, O, r, wi, _, ho⟩ := ins_get I.hok e
  have hz : (fs.map (·.1)).length ≤ sizeLine := by rw [List.length_map, sizeLine_eq]; omega
  refine set_map I.kIn O c.sa c.po n.taker c.hd wi hz fun h' O' sb => h _ ?_
  have hd : ∃ o, h'.get? dx = some o := let ⟨o, _, _, e', _⟩ := O'.ns; ⟨o, e'⟩
  refine I.write (x := a) (e := dx) (by rw [e]; exact True.intro) (.inr ho) (fun b q hb z => (sb.2 b hb).trans z) hd ?_
  refine ⟨by rw [upd_ne O.ne]; exact ho, ?_, O.ne, O'.obj, _, O'.ns, fun g => ?_, fun g hg => ?_⟩
  · have := length_putF f y fs; omega
  · show RelO ((putF f y fs).lookup g) (if g = f then some u else mA g)
    rw [lookup_putF]
    by_cases q : g = f
    · rw [if_pos q, if_pos q]; exact ry
    · rw [if_neg q, if_neg q]; exact r g
  · by_cases q : g = f
    · rw [q]; exact (keys_putF f y fs).1
    · refine (keys_putF f y fs).2 g (wi g fun z => hg ?_)
      show (if g = f then some u else mA g) = none
      rw [if_neg q]; exact z

/-- a new instance, tracked, without attributes -/
theorem Inv.made (I : Inv X pins σ H s) : Inv X pins σ (upd (upd H s.heap.objs.size (.own (s.heap.objs.size + 1))) (s.heap.objs.size + 1) (.ins C s.heap.objs.size []))
    { s with heap := (s.heap.push PySem.W.emptyDict).push (PySem.W.instObj C s.heap.objs.size) } := by
  have e1 : (s.heap.push PySem.W.emptyDict).get? s.heap.objs.size = some PySem.W.emptyDict := Heap.get?_push_size s.heap rfl
  have e2 : ((s.heap.push PySem.W.emptyDict).push (PySem.W.instObj C s.heap.objs.size)).get? (s.heap.objs.size + 1) = some (PySem.W.instObj C s.heap.objs.size) := by
    have := Heap.get?_push_size (s.heap.push PySem.W.emptyDict) (o := PySem.W.instObj C s.heap.objs.size) rfl
    rwa [Heap.size_push] at this
  have e3 : (s.heap.push PySem.W.emptyDict).Ns s.heap.objs.size (fun _ => none) := ⟨PySem.W.emptyDict, #[], _, e1, rfl, (fun e he => absurd he (by simp)), fun _ => rfl⟩
  have I1 := I.laid (a := s.heap.objs.size) (o := .own (s.heap.objs.size + 1)) (h' := s.heap.push PySem.W.emptyDict) (t' := s.toks) (fun b u q => Heap.get?_push_of_some _ q) (Nat.le_refl _) ⟨_, e1⟩
  refine I1.laid (a := s.heap.objs.size + 1) (o := .ins C s.heap.objs.size []) (t' := s.toks) (fun b u q => Heap.get?_push_of_some _ q) (Nat.le_of_eq (Heap.size_push _ _)) ?_
  have ne : s.heap.objs.size ≠ s.heap.objs.size + 1 := Nat.ne_of_lt (Nat.lt_succ_self _)
  refine ⟨by rw [upd_ne ne, upd_same], Nat.zero_le _, ne, e2, fun _ => none, (Heap.Ns1.of_empty e3).at fun o q => Heap.get?_push_of_some _ q, fun _ => True.intro, fun y hy => absurd rfl hy⟩

/-- e.f where nothing but the object is asked: through attributeBase (super) and the last hold -/
theorem attr_of {prog : Program} {w : World} {env : Env} {e : Expr} {f : Str} {pos : Pos} {s : Shared} {Q : Value → Shared → Prop} (hb : attributeBase e f env (eval e env) = eval e env)
    (h : wpAny (model prog w) A (eval e env) (fun o s₁ => wpAny (model prog w) A (getAttr o f true) Q E s₁) E s) : wpAny (model prog w) A (eval (.Attribute e f pos) env) Q E s :=
  Attribute_any_ h (by rw [arm_eval_Attribute, hb])
end

/-- e.f, an attribute of the instance -/
def tFld (K : PySem.W.Frag) (ta : TE) (f : Str) : TE := fun σ H Q => ta σ H fun x H1 => ∃ a C dx fs v, x = .ref a ∧ H1 a = some (.ins C dx fs) ∧ Cls K C ∧ NoAttr K C f ∧ fs.lookup f = some v ∧ Q v H1
/-- e.f = value -/
def sFld (K : PySem.W.Frag) (ta tv : TE) (f : Str) : TS := fun D σ H => tv σ H fun y H1 => ta σ H1 fun x H2 => ∃ a C dx fs, x = .ref a ∧ H2 a = some (.ins C dx fs) ∧ Cls K C ∧ NoAttr K C f ∧ fs.length < 1000 ∧
  D.nx σ (upd H2 a (.ins C dx (putF f y fs)))
section
variable {X : Cx} {o e value : Expr} {f : Str} {pos pos' tpos : Pos} {ta tv : TE}
theorem pe_fld (he : PE X e ta) (hb : attributeBase e f X.env (eval e X.env) = eval e X.env) : PE X (.Attribute e f pos) (tFld X.K ta f) := by
  intro pins s σ H Q I h
  refine attr_of hb (thn (he pins s σ H _ I h) fun u s1 ⟨x, H1, I1, rx, a, C, dx, fs, v, ex, ea, c, n, l, q⟩ => ?_)
  subst ex
  obtain rfl : u = Value.ref a := rx
  exact getattr_ok I1 ea c n l fun u' s2 I2 ru => ⟨v, H1, I2, ru, q⟩
theorem ps_fld (ha : PE X o ta) (hv : PE X value tv) (hs : swapsWith value (some (.Attribute o f pos')) pos.line X.env = pure false) : PS X (.Assign [.Attribute o f pos'] value pos) (sFld X.K ta tv f) := by
  intro pins s σ H D I h
  refine plainObj_wpAny_Assign_Attribute (thn (hv pins s σ H _ I h) fun u s1 ⟨y, H1, I1, ry, q⟩ => thn (ha pins s1 σ H1 _ I1 q) fun ov s2 ⟨x, H2, I2, rx, a, C, dx, fs, ex, ea, c, n, l, q2⟩ => ?_) hs
  subst ex
  obtain rfl : ov = Value.ref a := rx
  exact setattr_ok I2 ea c n l ry fun s3 I3 => ⟨σ, _, I3, q2⟩
end

section
variable {X : Cx} {pins : List (Addr × Obj)} {σ : St} {H : Hp} {s : Shared} {A : Around} {E : Value → Shared → Prop} {Q : Value → Shared → Prop} {c : Value} {b : Bool}
/-- the type of a value, as the fragment's deciders take it; for an instance its class -/
inductive TyOf (K : PySem.W.Frag) (H : Hp) : V → Value → Prop where
  | non : TyOf K H .non (.type "NoneType")
  | bl (x : Bool) : TyOf K H (.bl x) (.type "bool")
  | int (i : Int) : TyOf K H (.int i) (.type "int")
  | str (x : Str) : TyOf K H (.str x) (.type "str")
  | flt (x : UInt64) : TyOf K H (.flt x) (.type "float")
  | lst {a : Addr} {xs : List V} (e : H a = some (.lst xs)) : TyOf K H (.ref a) (.type "list")
  | frz {a : Addr} {o : Obj} {xs : List V} (e : H a = some (.frz o (.lst xs))) : TyOf K H (.ref a) (.type "list")
  | tup {a : Addr} {xs : List V} (e : H a = some (.tup xs)) : TyOf K H (.ref a) (.type "tuple")
  | dK {a : Addr} {kvs : List (Key × V)} (e : H a = some (.dK kvs)) : TyOf K H (.ref a) (.type "dict")
  | dT {a : Addr} {kvs : List (List Key × V)} (e : H a = some (.dT kvs)) : TyOf K H (.ref a) (.type "dict")
  | ins {a C dx : Addr} {fs : List (Str × V)} (e : H a = some (.ins C dx fs)) (cl : Cls K C) (ha : PySem.W.findIn K (.ref C) "__class__" = some (some (.builtin "object.__class__")))
      (hn : PySem.W.specialIn K (.builtin "object.__class__") "__get__" = some (some (.builtin "getset_descriptor.__get__"))) (htk : PySem.W.takesIn K (.builtin "object.__class__") = some true)
      (hm : PySem.W.mroIn K C (.type "object") = some true) : TyOf K H (.ref a) (.ref C)
/-- isinstance(x, c) for one class c, a built-in or an own one: kitOne's answer -/
theorem isinst_ok {x : V} {u t : Value} (I : Inv X pins σ H s) (rx : RelV x u) (ty : TyOf X.K H x t) (e : PySem.W.kitOne X.K t c = some b) (h : ∀ tk, Q (.bool b) { s with toks := tk }) :
    wpAny (model X.prog X.w) A (call (.builtin "isinstance") [u, c]) Q E s := by
  cases ty with
  | non => cases (show u = Value.none from rx); exact PySem.W.kia_one PySem.W.kitx_none I.kIn True.intro e (fun z => nomatch z) h
  | bl y => cases (show u = Value.bool y from rx); exact PySem.W.kia_one PySem.W.kitx_bool I.kIn True.intro e (fun z => nomatch z) h
  | int i => obtain ⟨t, q⟩ := (show ∃ t, u = Value.int i t from rx); cases q; exact PySem.W.kia_one PySem.W.kitx_int I.kIn True.intro e (fun z => nomatch z) h
  | str y => obtain ⟨t, q⟩ := (show ∃ t, u = Value.str y t from rx); cases q; exact PySem.W.kia_one PySem.W.kitx_str I.kIn True.intro e (fun z => nomatch z) h
  | flt y => obtain ⟨t, q⟩ := (show ∃ t, u = Value.float y t from rx); cases q; exact PySem.W.kia_one PySem.W.kitx_float I.kIn True.intro e (fun z => nomatch z) h
  | @lst a xs ea =>
    cases (show u = Value.ref a from rx)
    obtain ⟨_, _, n, _, h1⟩ := (show ObjOk X.prog X.w H s.heap a (.lst xs) from I.hok a _ ea)
    exact PySem.W.kia_one PySem.W.kitx_list I.kIn ⟨_, h1, rfl⟩ e (fun z => nomatch z) h
  | @frz a ob xs ea =>
    cases (show u = Value.ref a from rx)
    obtain ⟨_, _, _, n, _, h1⟩ := (show ObjOk X.prog X.w H s.heap a (.frz ob (.lst xs)) from I.hok a _ ea)
    exact PySem.W.kia_one PySem.W.kitx_list I.kIn ⟨_, h1, rfl⟩ e (fun z => nomatch z) h
  | @tup a xs ea =>
    cases (show u = Value.ref a from rx)
    obtain ⟨_, _, _, p⟩ := (show ObjOk X.prog X.w H s.heap a (.tup xs) from I.hok a _ ea)
    obtain ⟨o, h1, h2, _⟩ := p
    exact PySem.W.kia_one PySem.W.kitx_tuple I.kIn ⟨o, h1, h2⟩ e (fun z => nomatch z) h
  | @dK a kvs ea =>
    cases (show u = Value.ref a from rx)
    obtain ⟨_, _, vs, _, p⟩ := (show ObjOk X.prog X.w H s.heap a (.dK kvs) from I.hok a _ ea)
    obtain ⟨o, es, ep, h1, h2, _⟩ := p
    exact PySem.W.kia_one PySem.W.kitx_dict I.kIn ⟨o, h1, h2.1⟩ e (fun z => nomatch z) h
  | @dT a kvs ea =>
    cases (show u = Value.ref a from rx)
    obtain ⟨_, _, xs, _, o, es, ep, h1, h2, _⟩ := (show ObjOk X.prog X.w H s.heap a (.dT kvs) from I.hok a _ ea)
    exact PySem.W.kia_one PySem.W.kitx_dict I.kIn ⟨o, h1, h2.1⟩ e (fun z => nomatch z) h
  | @ins a C dx fs ea cl ha hn htk hm =>
    cases (show u = Value.ref a from rx)
    obtain ⟨mA, O, _⟩ := ins_get I.hok ea
    obtain ⟨od, J, _⟩ := O.look
    exact PySem.W.kia_one (PySem.W.kitx_own (cl.get _) cl.hd ha hn htk hm) I.kIn J e (fun z => nomatch z) h
end
end L2

namespace L2
open PySem PySem.Spec PyProof.Rows

structure Room (k : Nat) (A : Around) : Prop where
  hd : A.handled = none
  dp : A.depth + 3 * k + 5 < recursionLimit
  un : A.units + 16 * k + 200 < cLine
theorem Room.mono {j k : Nat} {A : Around} (r : Room k A) (h : j ≤ k) : Room j A := ⟨r.hd, by have := r.dp; omega, by have := r.un; omega⟩
theorem Room.deeper {k : Nat} {A : Around} (r : Room (k + 1) A) (env : Env) : Room k (A.deeper env) :=
  ⟨r.hd, by have := r.dp; show A.depth + 1 + 3 * k + 5 < _; omega, by have := r.un; show A.units + 3 + 16 * k + 200 < _; omega⟩
theorem Room.in1 {k : Nat} {A : Around} (r : Room (k + 1) A) : Room k A.in1 :=
  ⟨r.hd, by have := r.dp; show A.depth + 3 * k + 5 < _; omega, by have := r.un; show A.units + 1 + 16 * k + 200 < _; omega⟩
theorem make_depth {A : Around} {C : Addr} {us : List Value} {kw : List (Str × Value)} : (A.under (.builtin "type.__call__" ⟨.ref C :: us, kw⟩)).depth = A.depth + 1 := by
  first | rfl | simp [Around.under, Code.weight, Code.isCreation, Code.isGuard, Code.isCaller, Code.frames, Code.isFrame, guardIds]
theorem make_units {A : Around} {C : Addr} {us : List Value} {kw : List (Str × Value)} : (A.under (.builtin "type.__call__" ⟨.ref C :: us, kw⟩)).units = A.units + 1 := by
  first | rfl | simp [Around.under, Code.cUnits, Code.frames, Code.isFrame]
theorem Room.make {k : Nat} {A : Around} (r : Room (k + 1) A) (C : Addr) (us : List Value) (kw : List (Str × Value)) : Room k (A.under (.builtin "type.__call__" ⟨.ref C :: us, kw⟩)) :=
  ⟨r.hd, by have := r.dp; rw [make_depth]; omega, by have := r.un; rw [make_units]; omega⟩
theorem Room.depth {k : Nat} {A : Around} (r : Room k A) : A.depth < recursionLimit := by have := r.dp; omega
theorem Room.units {k : Nat} {A : Around} (r : Room k A) : A.units + 64 < cLine := by have := r.un; omega
theorem Room.units0 {k : Nat} {A : Around} (r : Room k A) : A.units < cLine := by have := r.un; omega

def tNil : TA := fun _ H Q => Q [] H
def tCons (ta : TE) (tr : TA) : TA := fun σ H Q => ta σ H fun x H1 => tr σ H1 fun xs H2 => Q (x :: xs) H2
section
variable {X : Cx} {e : Expr} {es : List Expr} {te : TE} {t : TA} {pos : Pos}
theorem pa_nil : PA X [] tNil := fun _ _ _ _ H Q I h => Calls.spliced_nil ⟨[], H, I, .nil, h⟩
theorem pa_cons (ha : PE X e te) (hr : PA X es t) (hs : starEach (e :: es) X.env = (false, eval e X.env) :: starEach es X.env := by rfl) : PA X (e :: es) (tCons te t) := by
  intro pos pins s σ H Q I h
  rw [hs]
  show wpAny _ _ (spliced ((false, eval e X.env) :: backTo pos (starEach es X.env))) _ _ s
  refine Calls.spliced_cons (thn (ha pins s σ H _ I h) fun u s1 ⟨x, H1, I1, r1, q1⟩ => ?_)
  exact thn (hr pos pins s1 σ H1 _ I1 q1) fun us s2 ⟨xs, H2, I2, r2, q2⟩ => ⟨x :: xs, H2, I2, .cons r1 r2, q2⟩

/-- a tuple, a list of written items -/
def tTup (t : TA) : TE := fun σ H Q => t σ H fun xs H1 => xs.length ≤ sizeLine ∧ ∀ p, H1 p = none → Q (.ref p) (upd H1 p (.tup xs))
def tLst (t : TA) : TE := fun σ H Q => t σ H fun xs H1 => xs.length ≤ sizeLine ∧ ∀ p, H1 p = none → Q (.ref p) (upd H1 p (.lst xs))
theorem pe_tup {x1} (h : PA X es t) : PE X (.Tuple es x1 pos) (tTup t) := by
  intro pins s σ H Q I hq
  refine wpAny_Tuple_spliced (thn (h pos pins s σ H _ I hq) fun us s1 ⟨xs, H1, I1, r, z, q⟩ => ⟨by rw [← r.length]; exact z, ?_⟩)
  have hf : H1 s1.heap.objs.size = none := I1.hok.fresh (Nat.le_refl _)
  refine ⟨.ref s1.heap.objs.size, upd H1 s1.heap.objs.size (.tup xs), I1.laid (t' := s1.toks) (fun b u e => Heap.get?_push_of_some _ e) (Nat.le_refl _) ?_, rfl, q _ hf⟩
  exact ⟨z, us, r, ⟨_, Heap.get?_push_size _ rfl, rfl, _, rfl⟩⟩
theorem pe_lst (h : PA X es t) : PE X (.List es pos) (tLst t) := by
  intro pins s σ H Q I hq
  refine wpAny_List_spliced (thn (h pos pins s σ H _ I hq) fun us s1 ⟨xs, H1, I1, r, z, q⟩ => ⟨by rw [← r.length]; exact z, ?_⟩)
  have hf : H1 s1.heap.objs.size = none := I1.hok.fresh (Nat.le_refl _)
  refine ⟨.ref s1.heap.objs.size, upd H1 s1.heap.objs.size (.lst xs), I1.laid (t' := s1.toks) (fun b u e => Heap.get?_push_of_some _ e) (Nat.le_refl _) ?_, rfl, q _ hf⟩
  exact ⟨z, us, 0, r, Heap.get?_push_size _ rfl⟩
end

/-- a def's promise: the bound arguments in the parameters' order, the heap, the wanted end, the wanted exception -/
abbrev Sp := List V → Hp → VK → XK → Prop
/-- how an exception lies behind a call (file 08 gives it): the callers' frames, abstract heap and state ahead of the call, the wish, the exception, the state -/
abbrev CXT := List Env → Hp → Shared → XK → Value → Shared → Prop

/-- the state at a call -/
structure Env0 (P : Program) (w : World) (K : PySem.W.Frag) (mg : Str → Option Value) (base : Heap) (A : Around) (outer : List Env) (s : Shared) (H : Hp) : Prop where
  frames : A.frames = some outer
  mod : Mod K mg base
  bs : ∀ b o, base.get? b = some o → s.heap.get? b = some o ∧ H b = none
  bsz : base.objs.size ≤ s.heap.objs.size
  funs : s.heap.FunFrames base outer
  frf : ∀ b ∈ frs outer, H b = none
  hok : HOk P w H s.heap
  bare : AllBare s.gens
/-- a call's end -/
def CE (outer : List Env) (P : Program) (w : World) (H : Hp) (s : Shared) (Q : VK) (u : Value) (s' : Shared) : Prop :=
  ∃ v H', s'.os = s.os ∧ AllBare s'.gens ∧ Un (frs outer) [] H H' s.heap s'.heap ∧ HOk P w H' s'.heap ∧ RelV v u ∧ Q v H'
def CR (CX : CXT) (outer : List Env) (P : Program) (w : World) (H : Hp) (s : Shared) (Q : VK) (E : XK) (r : Result) (s' : Shared) : Prop :=
  match r with
  | .ok (.ret u) => CE outer P w H s Q u s'
  | .ok _ => False
  | .error e => CX outer H s E e s'
structure FnOk (P : Program) (w : World) (K : PySem.W.Frag) (mg : Str → Option Value) (base : Heap) (CX : CXT) (k : Nat) (f : Addr) (fd : FuncData) (ps : List Str) (sp : Sp) : Prop where
  len : ∀ vs H Q E, sp vs H Q E → vs.length = ps.length
  run : ∀ (A : Around) (outer : List Env) (s : Shared) (H : Hp) (args : Args) (us : List Value) (vs : List V) (Q : VK) (E : XK), Room k A → Env0 P w K mg base A outer s H → BindsTo s fd args (ps.zip us) → Vals vs us → sp vs H Q E →
    codeAny (model P w) A (.call (.ref f) args) (CR CX outer P w H s Q E) s
theorem FnOk.mono {P : Program} {w : World} {K : PySem.W.Frag} {mg : Str → Option Value} {base : Heap} {CX : CXT} {j k : Nat} {f : Addr} {fd : FuncData} {ps : List Str} {sp : Sp} (F : FnOk P w K mg base CX j f fd ps sp) (h : j ≤ k) :
    FnOk P w K mg base CX k f fd ps sp := ⟨F.len, fun A outer s H args us vs Q E hr => F.run A outer s H args us vs Q E (hr.mono h)⟩
/-- a weaker promise -/
theorem FnOk.imp {P : Program} {w : World} {K : PySem.W.Frag} {mg : Str → Option Value} {base : Heap} {CX : CXT} {k : Nat} {f : Addr} {fd : FuncData} {ps : List Str} {sp sp' : Sp} (F : FnOk P w K mg base CX k f fd ps sp)
    (h : ∀ vs H Q E, sp' vs H Q E → sp vs H Q E) : FnOk P w K mg base CX k f fd ps sp' :=
  ⟨fun vs H Q E q => F.len vs H Q E (h _ _ _ _ q), fun A outer s H args us vs Q E hr he hb hv hs => F.run A outer s H args us vs Q E hr he hb hv (h _ _ _ _ hs)⟩

theorem Env0.make {P : Program} {w : World} {K : PySem.W.Frag} {mg : Str → Option Value} {base : Heap} {A : Around} {outer : List Env} {s : Shared} {H : Hp} (e : Env0 P w K mg base A outer s H) (C : Addr) (us : List Value) (kw : List (Str × Value)) :
    Env0 P w K mg base (A.under (.builtin "type.__call__" ⟨.ref C :: us, kw⟩)) outer s H := ⟨by first | exact e.frames | (simpa [Around.under, Code.envs, Code.isFrame, pushEnvs] using e.frames), e.mod, e.bs, e.bsz, e.funs, e.frf, e.hok, e.bare⟩
theorem Env0.in1 {P : Program} {w : World} {K : PySem.W.Frag} {mg : Str → Option Value} {base : Heap} {A : Around} {outer : List Env} {s : Shared} {H : Hp} (e : Env0 P w K mg base A outer s H) :
    Env0 P w K mg base A.in1 outer s H := ⟨e.frames, e.mod, e.bs, e.bsz, e.funs, e.frf, e.hok, e.bare⟩

section
variable {X : Cx} {pins : List (Addr × Obj)} {σ : St} {H : Hp} {s s' : Shared}
/-- from a body: what a callee wants -/
theorem Inv.env0 (I : Inv X pins σ H s) : Env0 X.prog X.w X.K X.mg X.base X.A X.stack s H :=
  ⟨I.ok.frames, I.ok.mod, I.bs, Nat.le_trans I.ok.bsz I.sz, I.stack, I.stkFree, I.hok, I.bare⟩
/-- behind a call -/
theorem Inv.after {Q : VK} {u : Value} (I : Inv X pins σ H s) (h : CE X.stack X.prog X.w H s Q u s') : EP X pins σ Q u s' := by
  obtain ⟨v, H', os, bare, un, hok, r, q⟩ := h
  obtain ⟨hh, g, d, t, os'⟩ := s'
  obtain rfl : os' = s.os := os
  exact ⟨v, H', I.call (h' := hh) (g' := g) (d' := d) (t' := t) (ch := []) un hok bare (fun b z => absurd z (by simp)), r, q⟩
end

/-- f(..): the written arguments, then the defaults dvs; E: what is wanted of an exception -/
def tCall (sp : Sp) (dvs : List V) (E : XK) (t : TA) : TE := fun σ H Q => t σ H fun vs H1 => sp (vs ++ dvs) H1 Q E
/-- o.m(..) of an instance of the class at C -/
def tMeth (C : Addr) (m : Str) (sp : Sp) (dvs : List V) (E : XK) (ta : TE) (t : TA) : TE := fun σ H Q => ta σ H fun x H1 => ∃ a dx fs, x = .ref a ∧ H1 a = some (.ins C dx fs) ∧ fs.lookup m = none ∧
  t σ H1 fun vs H2 => sp (x :: (vs ++ dvs)) H2 Q E
/-- C(..): a new instance and its dict, then __init__ -/
def tMake (C : Addr) (sp : Sp) (dvs : List V) (E : XK) (t : TA) : TE := fun σ H Q => t σ H fun vs H1 => ∀ x dx, H1 x = none → H1 dx = none → dx ≠ x →
  sp (.ref x :: (vs ++ dvs)) (upd (upd H1 dx (.own x)) x (.ins C dx [])) (fun v H2 => v = .non ∧ Q (.ref x) H2) E

/-- how the parameters are bound: us the positional arguments, kw the keywords' values by name, ds the defaults that fill up -/
def Binds (K : PySem.W.Frag) (fd : FuncData) (ps : List Str) (ds : List Value) : Prop :=
  ∀ (s : Shared) (us : List Value), K.In s.heap → (us ++ ds).length = ps.length → BindsTo s fd ⟨us, []⟩ (ps.zip (us ++ ds))
/-- every parameter is given -/
theorem Binds.all {K : PySem.W.Frag} {fd : FuncData} {ps : List Str} (h : ∀ us : List Value, us.length = ps.length → bindArgs fd ⟨us, []⟩ = pure (ps.zip us)) : Binds K fd ps [] := fun s us _ hl => by
  rw [List.append_nil] at hl ⊢
  exact .of_eq (h us hl)

/-- an exception of a callee reaches what this body wants of exceptions -/
def Passes (CX : CXT) (X : Cx) (E : XK) : Prop := ∀ (pins : List (Addr × Obj)) (σ : St) (H : Hp) (s : Shared) (e : Value) (s' : Shared), Inv X pins σ H s → CX X.stack H s E e s' → X.xe e s'

section
variable {X : Cx} {CX : CXT} {k : Nat} {f C : Addr} {fd : FuncData} {ps : List Str} {sp : Sp} {dvs : List V} {ds : List Value} {E : XK} {x m : Str} {p pos apos : Pos} {e o : Expr} {es : List Expr} {ta : TE} {t : TA}

/-- the callee runs -/
theorem run_fn {pins : List (Addr × Obj)} {σ : St} {H : Hp} {s : Shared} {Q : VK} {us : List Value} {vs : List V} (F : FnOk X.prog X.w X.K X.mg X.base CX k f fd ps sp) (hr : Room k X.A) (hb : Binds X.K fd ps ds) (hd : Vals dvs ds) (hx : Passes CX X E)
    (I : Inv X pins σ H s) (r : Vals vs us) (h : sp (vs ++ dvs) H Q E) : wpAny (model X.prog X.w) X.A (call (.ref f) us) (EP X pins σ Q) X.xe s := by
  have r2 : Vals (vs ++ dvs) (us ++ ds) := r.append hd
  have hl : (us ++ ds).length = ps.length := by rw [← r2.length]; exact F.len _ _ _ _ h
  refine wpAny_call (codeAny_mono (F.run X.A X.stack s H ⟨us, []⟩ (us ++ ds) (vs ++ dvs) Q E hr I.env0 (hb s us I.kIn hl) r2 h) fun r s' hq => ?_)
  cases r with
  | error e => exact hx pins σ H s e s' I hq
  | ok fl =>
    cases fl with
    | ret u => exact I.after hq
    | next => exact False.elim hq
    | brk => exact False.elim hq
    | cont => exact False.elim hq

theorem pe_call (F : FnOk X.prog X.w X.K X.mg X.base CX k f fd ps sp) (hr : Room k X.A) (hg : Gl X x) (hm : X.mg x = some (.ref f)) (hk : PySem.W.keepIn X.K (.ref f) = true) (hb : Binds X.K fd ps ds) (hd : Vals dvs ds) (hx : Passes CX X E)
    (ha : PA X (e :: es) t) (hdb : (x == ("__debug__" : Str)) = false := by decide) (he : starEach (e :: es) X.env = (false, eval e X.env) :: starEach es X.env := by rfl) (hpl : (backTo pos (starEach es X.env)).any (·.1) = false := by rfl) :
    PE X (.Call (.Name x p) (e :: es) [] pos) (tCall sp dvs E t) := by
  intro pins s σ H Q I h
  refine wpAny_Call_Name_kw (ld_glob I hg hm ?_ hdb)
  refine PySem.W.callWith_K (h₀ := X.base) I.ok.mod.kin hk (thn (ha pos pins s σ H _ I h) fun us s1 ⟨vs, H1, I1, r, q⟩ => ⟨I1.kIn, ?_⟩) he hpl
  exact run_fn F hr hb hd hx I1 r q
/-- o.m(e, ..) -/
theorem pe_meth {pl : Sem Bool} (he : PE X o ta) (c : Cls X.K C) (hm : Meth X.K C m f) (F : FnOk X.prog X.w X.K X.mg X.base CX k f fd ps sp) (hr : Room k X.A) (hb : Binds X.K fd ps ds) (hd : Vals dvs ds) (hx : Passes CX X E) (ha : PA X (e :: es) t)
    (hst : starEach (e :: es) X.env = (false, eval e X.env) :: starEach es X.env := by rfl) (hpl : (backTo pos (starEach es X.env)).any (·.1) = false := by rfl)
    (ht : eval (.Call (.Attribute o m apos) (e :: es) [] pos) X.env = (do
      let ov ← eval o X.env
      standAt apos.atName
      let (f, first) ← holding [ov] (getMethod ov m pl)
      callWith pos f first (backTo pos (starEach (e :: es) X.env)) (backToKw pos (keywordEach [] X.env))) := by rfl) :
    PE X (.Call (.Attribute o m apos) (e :: es) [] pos) (tMeth C m sp dvs E ta t) := by
  intro pins s σ H Q I h
  refine PySem.W.methodCall_KW (pl := pl) (thn (he pins s σ H _ I h) fun u s1 ⟨x, H1, I1, rx, a, dx, fs, ex, ea, l, q⟩ => ?_) ht
  subst ex
  obtain rfl : u = Value.ref a := rx
  refine getmeth_ok I1 ea c hm l ?_
  refine PySem.W.callWith_K (first := [.ref a]) (h₀ := X.base) I.ok.mod.kin hm.kp (thn (ha pos pins s1 σ H1 _ I1 q) fun us s2 ⟨vs, H2, I2, r, q2⟩ => ⟨I2.kIn, ?_⟩) hst hpl
  exact run_fn (us := .ref a :: us) (vs := .ref a :: vs) F hr hb hd hx I2 (.cons rfl r) q2
/-- what a class must have to be made -/
structure Mk (K : PySem.W.Frag) (C f : Addr) : Prop where
  makes : PySem.W.makesIn K C = true
  init : PySem.W.findIn K (.ref C) "__init__" = some (some (.ref f))
  fn : PySem.W.isFn K (.ref f) = true
  kp : PySem.W.keepIn K (.ref C) = true

theorem run_make {pins : List (Addr × Obj)} {σ : St} {H : Hp} {s : Shared} {Q : VK} {us : List Value} {vs : List V} (M : Mk X.K C f) (F : FnOk X.prog X.w X.K X.mg X.base CX k f fd ps sp) (hr : Room (k + 1) X.A) (hb : Binds X.K fd ps ds) (hd : Vals dvs ds)
    (hx : Passes CX X E) (I : Inv X pins σ H s) (r : Vals vs us)
    (h : ∀ x dx, H x = none → H dx = none → dx ≠ x → sp (.ref x :: (vs ++ dvs)) (upd (upd H dx (.own x)) x (.ins C dx [])) (fun v H2 => v = .non ∧ Q (.ref x) H2) E) :
    wpAny (model X.prog X.w) X.A (call (.ref C) us) (EP X pins σ Q) X.xe s := by
  have hq := h (s.heap.objs.size + 1) s.heap.objs.size (I.hok.fresh (Nat.le_succ _)) (I.hok.fresh (Nat.le_refl _)) (Nat.ne_of_lt (Nat.lt_succ_self _))
  have I2 := Inv.made (C := C) I
  have r2 : Vals (V.ref (s.heap.objs.size + 1) :: (vs ++ dvs)) (Value.ref (s.heap.objs.size + 1) :: (us ++ ds)) := .cons rfl (r.append hd)
  have hl : (Value.ref (s.heap.objs.size + 1) :: us ++ ds).length = ps.length := by
    have e := r2.length
    rw [F.len _ _ _ _ hq] at e
    exact e.symm
  refine wpAny_call (make_map (f := f) I.kIn M.makes M.init (beq_iff_eq.mp M.fn) (codeAny_mono (F.run _ X.stack _ _ ⟨Value.ref (s.heap.objs.size + 1) :: us, []⟩ (Value.ref (s.heap.objs.size + 1) :: (us ++ ds)) _ _ E (hr.make C us [])
    (I2.env0.make C us []) (hb _ (Value.ref (s.heap.objs.size + 1) :: us) I2.kIn hl) r2 hq) fun r s' hq' => ?_))
  cases r with
  | error e => exact hx pins σ _ _ e s' I2 hq'
  | ok fl =>
    cases fl with
    | ret u =>
      obtain ⟨v, H', I3, rv, ev, q3⟩ := I2.after hq'
      subst ev
      exact ⟨rv, ⟨V.ref (s.heap.objs.size + 1), H', I3, rfl, q3⟩⟩
    | next => exact False.elim hq'
    | brk => exact False.elim hq'
    | cont => exact False.elim hq'
theorem pe_make (M : Mk X.K C f) (F : FnOk X.prog X.w X.K X.mg X.base CX k f fd ps sp) (hr : Room (k + 1) X.A) (hg : Gl X x) (hm : X.mg x = some (.ref C)) (hb : Binds X.K fd ps ds) (hd : Vals dvs ds) (hx : Passes CX X E)
    (ha : PA X (e :: es) t) (hdb : (x == ("__debug__" : Str)) = false := by decide) (he : starEach (e :: es) X.env = (false, eval e X.env) :: starEach es X.env := by rfl) (hpl : (backTo pos (starEach es X.env)).any (·.1) = false := by rfl) :
    PE X (.Call (.Name x p) (e :: es) [] pos) (tMake C sp dvs E t) := by
  intro pins s σ H Q I h
  refine wpAny_Call_Name_kw (ld_glob I hg hm ?_ hdb)
  refine PySem.W.callWith_K (h₀ := X.base) I.ok.mod.kin M.kp (thn (ha pos pins s σ H _ I h) fun us s1 ⟨vs, H1, I1, r, q⟩ => ⟨I1.kIn, ?_⟩) he hpl
  exact run_make M F hr hb hd hx I1 r q
end

section
variable {X : Cx} {CX : CXT} {k : Nat} {f C : Addr} {fd : FuncData} {ps ks : List Str} {sp : Sp} {E : XK} {x m : Str} {p pos apos kpos : Pos} {e o : Expr} {es : List Expr} {kws : List Keyword} {te ta : TE} {t tk : TA} {nm : Option Str}
/-- how a call with keywords binds: g puts the positional values us and the keywords' values ws (names ks) in the parameters' order, defaults among them -/
structure KBinds (K : PySem.W.Frag) (fd : FuncData) (ps ks : List Str) (g : List Value → List Value → List Value) (gV : List V → List V → List V) : Prop where
  to : ∀ (s : Shared) (us ws : List Value), K.In s.heap → (g us ws).length = ps.length → BindsTo s fd ⟨us, ks.zip ws⟩ (ps.zip (g us ws))
  rel : ∀ {vs : List V} {us : List Value} {zs : List V} {ws : List Value}, Vals vs us → Vals zs ws → Vals (gV vs zs) (g us ws)
variable {g : List Value → List Value → List Value} {gV : List V → List V → List V}
end

/-- names: the parameters first -/
structure FnScope (N P : List Str) (sc : Scope) : Prop where
  kind : sc.kind = .function
  co : sc.isCoroutine = false
  gen : sc.isGenerator = false
  nd : N.Nodup
  pre : N.take P.length = P
  par : ∀ x ∈ P, sc.names.lookup x = some .local ∨ sc.names.lookup x = some .cell
  nofree : ∀ y ∈ sc.names, y.2 ≠ .free

theorem bindL_out {kindOf : Str → Option NameKind} {x : Str} : ∀ {binds : List (Str × Value)} {m : Str → Option Value}, (∀ v, (x, v) ∉ binds) → bindL kindOf binds m x = m x
  | [], _, _ => rfl
  | (n, v) :: r, m, h => by
    unfold bindL
    rw [bindL_out fun w hw => h w (List.mem_cons_of_mem _ hw)]
    split
    · have : x ≠ n := by rintro rfl; exact h v List.mem_cons_self
      simp [this]
    · rfl
theorem bindC_out {kindOf : Str → Option NameKind} {x : Str} : ∀ {binds : List (Str × Value)} {m : Str → Option Value}, (∀ v, (x, v) ∉ binds) → bindC kindOf binds m x = m x
  | [], _, _ => rfl
  | (n, v) :: r, m, h => by
    unfold bindC
    rw [bindC_out fun w hw => h w (List.mem_cons_of_mem _ hw)]
    split
    · rfl
    · have : x ≠ n := by rintro rfl; exact h v List.mem_cons_self
      simp [this]
theorem bindL_get {kindOf : Str → Option NameKind} {x : Str} {v : Value} : ∀ {P : List Str} {vs : List Value} {i : Nat} {m : Str → Option Value}, P.Nodup → P[i]? = some x → vs[i]? = some v → kindOf x = some .local →
    bindL kindOf (P.zip vs) m x = some v
  | [], _, _, _, _, h, _, _ => by simp at h
  | _ :: _, [], _, _, _, _, h, _ => by simp at h
  | p :: P, w :: vs, 0, m, nd, h1, h2, hk => by
    simp at h1 h2; subst h1; subst h2
    show bindL kindOf ((p, w) :: P.zip vs) m p = _
    unfold bindL
    rw [bindL_out fun v hv => (List.nodup_cons.mp nd).1 (List.of_mem_zip hv).1, if_pos hk]
    simp
  | p :: P, w :: vs, i + 1, m, nd, h1, h2, hk => by
    show bindL kindOf ((p, w) :: P.zip vs) m x = _
    unfold bindL
    exact bindL_get (i := i) (List.nodup_cons.mp nd).2 (by simpa using h1) (by simpa using h2) hk
theorem bindC_get {kindOf : Str → Option NameKind} {x : Str} {v : Value} : ∀ {P : List Str} {vs : List Value} {i : Nat} {m : Str → Option Value}, P.Nodup → P[i]? = some x → vs[i]? = some v → kindOf x ≠ some .local →
    bindC kindOf (P.zip vs) m x = some v
  | [], _, _, _, _, h, _, _ => by simp at h
  | _ :: _, [], _, _, _, _, h, _ => by simp at h
  | p :: P, w :: vs, 0, m, nd, h1, h2, hk => by
    simp at h1 h2; subst h1; subst h2
    show bindC kindOf ((p, w) :: P.zip vs) m p = _
    unfold bindC
    rw [bindC_out fun v hv => (List.nodup_cons.mp nd).1 (List.of_mem_zip hv).1, if_neg hk]
    simp
  | p :: P, w :: vs, i + 1, m, nd, h1, h2, hk => by
    show bindC kindOf ((p, w) :: P.zip vs) m x = _
    unfold bindC
    exact bindC_get (i := i) (List.nodup_cons.mp nd).2 (by simpa using h1) (by simpa using h2) hk

/-- the names' values at the entry -/
def start (N : List Str) (vs : List V) : St := vs.map some ++ List.replicate (N.length - vs.length) none

/-- the context of a def's body, at its entry; an exception leaves the frame, then lies as CX says -/
def cxOf (CX : CXT) (P : Program) (w : World) (K : PySem.W.Frag) (mg : Str → Option Value) (base : Heap) (N : List Str) (qual : Str) (scope : Scope) (f : Addr) (cd : Value) (A : Around) (outer : List Env) (s : Shared) (H : Hp) (E : XK) : Cx where
  prog := P
  w := w
  K := K
  mg := mg
  base := base
  A := A.deeper (envOfC qual scope s.heap.objs.size f cd)
  N := N
  s₀ := s
  H₀ := H
  env := envOfC qual scope s.heap.objs.size f cd
  outer := outer
  stack := envOfC qual scope s.heap.objs.size f cd :: outer
  ex := []
  calm := true
  fn := fun _ => true
  pn := []
  xe := fun e s' => wpAny (model P w) (A.deeper (envOfC qual scope s.heap.objs.size f cd)) (leaving (envOfC qual scope s.heap.objs.size f cd) e) (fun _ s'' => CX outer H s E e s'') (fun e' s'' => CX outer H s E e' s'') s'

theorem cell_has {sc : Scope} {n : Nat} {x : Str} (h : sc.names.lookup x = some .cell) : ∃ c, (cellsFrom n sc.names []).lookup x = some c := by
  have q := PySem.W.cellsFrom_some sc.names n [] (.inl h)
  exact Option.isSome_iff_exists.mp q

theorem inv_start {CX : CXT} {P : Program} {w : World} {K : PySem.W.Frag} {mg : Str → Option Value} {base : Heap} {N ps : List Str} {qual : Str} {scope : Scope} {f : Addr} {cd : Value} {A : Around} {outer : List Env} {s s1 : Shared} {H : Hp} {E : XK} {us : List Value} {vs : List V}
    (S : FnScope N ps scope) (hd : A.handled = none) (e0 : Env0 P w K mg base A outer s H) (hl : vs.length = ps.length) (r : Vals vs us)
    (x : InCallC s s.heap.objs.size (bindL (envOfC qual scope s.heap.objs.size f cd).kindOf (ps.zip us) fun _ => none) (cellsFrom (s.heap.objs.size + 1) scope.names []) (bindC (envOfC qual scope s.heap.objs.size f cd).kindOf (ps.zip us) fun _ => none) s1) :
    Inv (cxOf CX P w K mg base N qual scope f cd A outer s H E) [] (start N vs) H s1 := by
  have hpl : ps.length ≤ N.length := by have := congrArg List.length S.pre; rw [List.length_take] at this; omega
  obtain ⟨h1, tk, rfl, hk⟩ := x.done
  have noA : ∀ b : Addr, b ∉ (cxOf CX P w K mg base N qual scope f cd A outer s H E).ex := fun b z => absurd (show b ∈ ([] : List Addr) from z) (by simp)
  refine ⟨⟨e0.mod, S.kind, rfl, rfl, Nat.le_refl _, fun y z c h1 h2 => ?_, fun y hy => ?_, fun y c _ h => ?_, fun _ => hd, Around.frames_deeper e0.frames, .inr ⟨rfl, rfl⟩, fun b z => absurd z (noA b), e0.bs, e0.bsz, fun b _ _ => noA b, fun b z => absurd z (noA b), e0.funs, e0.frf⟩,
    rfl, e0.bare, Un.kept hk, ⟨_, x.toInCall.ns, fun i y v h1 h2 h3 => ?_⟩, fun y c h => ⟨_, x.cell y c h⟩, e0.hok.fresh (Nat.le_refl _), fun y c h => ?_, fun p hp => absurd (show p ∈ ([] : List (Addr × Obj)) from hp) (by simp), e0.hok.kept hk, ?_⟩
  · exact name_of_addr x.apart (PySem.mem_of_lookup h1) (PySem.mem_of_lookup h2)
  · have hy : scope.names.lookup y = some .cell ∨ scope.names.lookup y = some .free := hy
    rcases hy with hy | hy
    · exact cell_has hy
    · exact absurd rfl (S.nofree _ (PySem.mem_of_lookup hy))
  · exact Nat.le_of_lt (x.above y c (PySem.mem_of_lookup h))
  · have hi : i < vs.length := by
      unfold start at h2
      by_cases hi : i < vs.length
      · exact hi
      · rw [List.getElem?_append_right (by simpa using hi)] at h2
        rw [List.getElem?_replicate] at h2
        split at h2 <;> cases h2
    have ha : vs[i]? = some v := by
      unfold start at h2
      rw [List.getElem?_append_left (by simpa using hi), List.getElem?_map] at h2
      cases e : vs[i]? with
      | none => rw [e] at h2; cases h2
      | some a => rw [e] at h2; cases h2; rfl
    obtain ⟨u, hu, rv⟩ := r.get ha
    have hp : ps[i]? = some y := by
      rw [← S.pre, List.getElem?_take_of_lt (by omega)]; exact h1
    have ndP : ps.Nodup := by rw [← S.pre]; exact S.nd.sublist (List.take_sublist _ _)
    refine ⟨u, rv, ?_⟩
    rcases S.par y (List.mem_of_getElem? hp) with k | k
    · exact .inl ⟨k, bindL_get ndP hp hu k⟩
    · obtain ⟨c, e⟩ := cell_has (n := s.heap.objs.size + 1) k
      refine .inr ⟨.inl k, c, e, ?_⟩
      have q := x.cell y c e
      rw [bindC_get ndP hp hu (by show scope.names.lookup y ≠ _; rw [k]; decide)] at q
      exact q
  · exact e0.hok.fresh (Nat.le_of_lt (x.above y c (PySem.mem_of_lookup h)))
  · unfold start
    show _ = N.length
    rw [List.length_append, List.length_map, List.length_replicate]
    omega

/-- THE RULE: a def (or a method) of the text, by its body. The body's reading t is chosen for each entry; it is run at the parameters' values -/
theorem fn_of {CX : CXT} {P : Program} {w : World} {K : PySem.W.Frag} {mg : Str → Option Value} {base : Heap} {k : Nat} {f : Addr} {name qual : Str} {params : Arguments} {body : List Stmt} {scope : Scope} {dV kV doc pm cdv ct oc : Value} {an od : Option Addr}
    {osl : Array (Option Value)} {N ps : List Str} {sp : Sp} (lk : K.lookup f = some ⟨oc, od, .func (PySem.W.fnOf name qual params body scope dV kV doc pm an cdv ct), osl⟩) (hcd : PySem.W.codeIn K cdv qual = true) (S : FnScope N ps scope)
    (len : ∀ vs H Q E, sp vs H Q E → vs.length = ps.length)
    (hbody : ∀ (A : Around) (outer : List Env) (s : Shared) (H : Hp) (vs : List V) (Q : VK) (E : XK), Room k (A.deeper (envOfC qual scope s.heap.objs.size f cdv)) → sp vs H Q E →
      ∃ t, PSs (cxOf CX P w K mg base N qual scope f cdv A outer s H E) body t ∧ t { nx := fun _ H' => Q .non H', rt := Q } (start N vs) H) :
    FnOk P w K mg base CX (k + 1) f (PySem.W.fnOf name qual params body scope dV kV doc pm an cdv ct) ps sp := by
  refine ⟨len, fun A outer s H args us vs Q E hr e0 hb r hsp => ?_⟩
  have hl := len _ _ _ _ hsp
  have KX : K.In s.heap := e0.mod.kin.keeps fun b o e => (e0.bs b o e).1
  have lim : s.heap.NoLimit := e0.mod.nolimit.keeps fun b o e => (e0.bs b o e).1
  have hkind : ∀ y ∈ ps.zip us, scope.names.lookup y.1 = some .local ∨ (scope.names.lookup y.1 = some .cell ∧ ((cellsFrom (s.heap.objs.size + 1) scope.names []).lookup y.1).isSome = true) := fun ⟨n, v⟩ hy => by
    rcases S.par n (List.of_mem_zip hy).1 with q | q
    · exact .inl q
    · exact .inr ⟨q, PySem.W.cellsFrom_some _ _ _ (.inl q)⟩
  refine codeAny_call_function hr.depth (KX _ _ lk) rfl S.co S.gen rfl (PySem.W.codeRec_of KX hcd) (hb _ _ _ _ ?_)
  refine wpAny_newFunctionEnv_cells S.kind hkind fun env he s1 x => ?_
  subst he
  refine ⟨lim.keeps x.toInCall.keep, codeAny_func ?_⟩
  obtain ⟨t, ht, hq⟩ := hbody A outer s H vs Q E (hr.deeper _) hsp
  have I : Inv (cxOf CX P w K mg base N qual scope f cdv A outer s H E) [] (start N vs) H s1 := inv_start S hr.hd e0 hl r x
  refine wpAny_mono (ht [] s1 (start N vs) H _ I hq) (fun fl s' hs => ?_) fun e s' hs => hs
  have fin : ∀ {σ' : St} {H' : Hp} {v : V} {u : Value}, Inv (cxOf CX P w K mg base N qual scope f cdv A outer s H E) [] σ' H' s' → RelV v u → Q v H' → CE outer P w H s Q u s' :=
    fun {σ' H' v u} J rv q => ⟨v, H', J.os, J.bare, J.base, J.hok, rv, q⟩
  cases fl with
  | ret u =>
    obtain ⟨v, σ', H', J, rv, q⟩ := hs
    exact fin J rv q
  | next =>
    obtain ⟨σ', H', J, q⟩ := hs
    exact fin (v := V.non) (u := Value.none) J rfl q
  | brk =>
    obtain ⟨_, _, _, q⟩ := hs
    exact False.elim q
  | cont =>
    obtain ⟨_, _, _, q⟩ := hs
    exact False.elim q
end L2

namespace L2
open PySem PySem.Spec PyProof.Rows
section
variable {X : Cx} {x : Str} {p pos : Pos} {e : Expr} {es : List Expr} {t : TA} {id T : String} {r : List V → Hp → VK → Prop}

def tCB (r : List V → Hp → VK → Prop) (t : TA) : TE := fun σ H Q => t σ H fun vs H1 => r vs H1 Q
/-- f(e, ..), f a built-in function -/
theorem pe_callB (hc : CallR X (.builtin id) r) (hg : Gl X x) (hm : X.mg x = none) (hv : bootBuiltins x = some (.builtin id)) (ha : PA X (e :: es) t) (hn : x ≠ "__name__" := by decide) (hdb : (x == ("__debug__" : Str)) = false := by decide)
    (he : starEach (e :: es) X.env = (false, eval e X.env) :: starEach es X.env := by rfl) (hpl : (backTo pos (starEach es X.env)).any (·.1) = false := by rfl) : PE X (.Call (.Name x p) (e :: es) [] pos) (tCB r t) := by
  intro pins s σ H Q I h
  refine wpAny_Call_Name_kw (ld_blt I hg hm hv ?_ hn hdb)
  exact PyProof.Rows.callWith_builtin1 (thn (ha pos pins s σ H _ I h) fun us s1 ⟨vs, H1, I1, r1, q1⟩ => hc pins s1 σ H1 vs us Q I1 r1 q1) he hpl
/-- T(e, ..), T a built-in type -/
theorem pe_callTy (hc : CallR X (.type T) r) (hg : Gl X x) (hm : X.mg x = none) (hv : bootBuiltins x = some (.type T)) (ha : PA X (e :: es) t) (hn : x ≠ "__name__" := by decide) (hdb : (x == ("__debug__" : Str)) = false := by decide)
    (he : starEach (e :: es) X.env = (false, eval e X.env) :: starEach es X.env := by rfl) (hpl : (backTo pos (starEach es X.env)).any (·.1) = false := by rfl) : PE X (.Call (.Name x p) (e :: es) [] pos) (tCB r t) := by
  intro pins s σ H Q I h
  refine wpAny_Call_Name_kw (ld_blt I hg hm hv ?_ hn hdb)
  exact PyProof.Rows.callWith_type1 (thn (ha pos pins s σ H _ I h) fun us s1 ⟨vs, H1, I1, r1, q1⟩ => hc pins s1 σ H1 vs us Q I1 r1 q1) he hpl
end
end L2

namespace HT
open PySem PyProof.Rows

section
open PySem.SeqAt
open PySem.AutoSeq1 (wpAny_loadPart')
open PySem.MeetsSeq PySem.MeetsSeq2 PySem.MeetsSeq3

end

section
variable {prog : Program} {w : World} {A : Around} {E : Value → Shared → Prop} {s : Shared}

/-- a slice's bound as a place among n (d where it is left out) -/
def sIx (n d : Nat) : Option Int → Nat
  | none => d
  | some v => if v < 0 then (v + (n : Int)).toNat else min v.toNat n
theorem sIx_none (n d : Nat) : sIx n d none = d := rfl
theorem sIx_nat (n d k : Nat) : sIx n d (some (k : Int)) = min k n := by
  show (if (k : Int) < 0 then ((k : Int) + (n : Int)).toNat else min (k : Int).toNat n) = min k n
  rw [if_neg (by omega), Int.toNat_natCast]
theorem sIx_le (n d : Nat) (hd : d ≤ n) (o : Option Int) : sIx n d o ≤ n := by
  cases o with
  | none => exact hd
  | some v =>
    show (if v < 0 then (v + (n : Int)).toNat else min v.toNat n) ≤ n
    by_cases hv : v < 0
    · rw [if_pos hv]; omega
    · rw [if_neg hv]; exact Nat.min_le_right _ _
end
end HT

namespace L2
open PySem PySem.Spec PyProof.Rows

abbrev TO := St → Hp → (Option Int → Hp → Prop) → Prop
/-- a slice's part (left out, or an int) -/
def PO (X : Cx) (e : Option Expr) (t : TO) : Prop :=
  ∀ (pins : List (Addr × Obj)) (s : Shared) (σ : St) (H : Hp) (Q : Option Int → Hp → Prop), Inv X pins σ H s → t σ H Q →
    wpAny (model X.prog X.w) X.A (evalPart e X.env) (fun u s' => ∃ o H', Inv X pins σ H' s' ∧ IsPart u o ∧ Q o H') X.xe s
def tNoPart : TO := fun _ H Q => Q none H
def tPart (t : TE) : TO := fun σ H Q => t σ H fun x H1 => ∃ i, x = .int i ∧ Q (some i) H1

theorem intsAre_of {ns : List Int} : ∀ {us : List Value}, Vals (ns.map V.int) us → IntsAre us ns := by
  induction ns with
  | nil => intro us r; rw [List.map_nil] at r; cases r; exact .nil
  | cons n ns ih =>
    intro us r
    rw [List.map_cons] at r
    cases r with
    | cons r1 r2 =>
      obtain ⟨t, e⟩ := r1
      subst e
      exact .cons n t (ih r2)

section
variable {X : Cx} {e : Expr} {te : TE} {lo hi : Option Expr} {tl th : TO} {pos p2 : Pos}

theorem po_none : PO X none tNoPart := by
  intro pins s σ H Q I h
  rw [evalPart_none]
  exact wpAny_pure ⟨none, H, I, .none, h⟩
theorem po_some (h : PE X e te) : PO X (some e) (tPart te) := by
  intro pins s σ H Q I hw
  rw [evalPart_some]
  refine thn (h pins s σ H _ I hw) fun u s1 ⟨x, H1, I1, r1, q1⟩ => ?_
  obtain ⟨i, rfl, q⟩ := q1
  obtain ⟨t, rfl⟩ := r1
  exact ⟨some i, H1, I1, .int i t, q⟩

/-- what a slice of a value is, by values: the slice object stands at sl -/
def SlR (X : Cx) (r : V → Option Int → Option Int → Hp → VK → Prop) : Prop :=
  ∀ (pins : List (Addr × Obj)) (s : Shared) (σ : St) (H : Hp) (x : V) (v vl vu : Value) (lo hi : Option Int) (sl : Addr) (Q : VK), Inv X pins σ H s → RelV x v → s.heap.IsSliceOf sl vl vu .none → IsPart vl lo → IsPart vu hi → r x lo hi H Q →
    ∃ T id, typeLookup (.type T) "__getitem__" = pure (some (.builtin id)) ∧ s.TypeIs v T ∧ wpAny (model X.prog X.w) X.A (getItem v (.ref sl)) (EP X pins σ Q) X.xe s
theorem SlR.or {r r' : V → Option Int → Option Int → Hp → VK → Prop} (h : SlR X r) (h' : SlR X r') : SlR X (fun x lo hi H Q => r x lo hi H Q ∨ r' x lo hi H Q) := by
  intro pins s σ H x v vl vu lo hi sl Q I rx hs pl pu q
  rcases q with q | q
  · exact h pins s σ H x v vl vu lo hi sl Q I rx hs pl pu q
  · exact h' pins s σ H x v vl vu lo hi sl Q I rx hs pl pu q
def tSl (r : V → Option Int → Option Int → Hp → VK → Prop) (te : TE) (tl th : TO) : TE := fun σ H Q => te σ H fun x H1 => tl σ H1 fun l H2 => th σ H2 fun u H3 => r x l u H3 Q
/-- a[lo:hi], any a -/
theorem pe_slice {r : V → Option Int → Option Int → Hp → VK → Prop} (hr : SlR X r) (he : PE X e te) (hl : PO X lo tl) (hu : PO X hi th) : PE X (.Subscript e (.Slice lo hi none p2) pos) (tSl r te tl th) := by
  intro pins s σ H Q I h
  refine Subscript_ (thn (he pins s σ H _ I h) fun v s1 ⟨x, H1, I1, r1, q1⟩ => ?_)
  refine wpAny_Slice (thn (hl pins s1 σ H1 _ I1 q1) fun vl s2 ⟨l, H2, I2, pl, q2⟩ => thn (hu pins s2 σ H2 _ I2 q2) fun vu s3 ⟨u, H3, I3, pu, q3⟩ => ?_)
  rw [evalPart_none]
  refine wpAny_pure ?_
  have I4 : Inv X pins σ H3 { s3 with heap := s3.heap.push { cls := .type "slice", data := .fields #[vl, vu, .none] } } := I3.kept (t' := s3.toks) fun b ob q => Heap.get?_push_of_some _ q
  obtain ⟨T, id, hT, ht, hg⟩ := hr pins { s3 with heap := s3.heap.push { cls := .type "slice", data := .fields #[vl, vu, .none] } } σ H3 x v vl vu l u s3.heap.objs.size Q I4 r1 (Heap.IsSliceOf.new ..) pl pu q3
  show wpAny (model X.prog X.w) X.A (subscriptTail e (.Slice lo hi none p2) v (.ref s3.heap.objs.size)) (EP X pins σ Q) X.xe { s3 with heap := s3.heap.push { cls := .type "slice", data := .fields #[vl, vu, .none] } }
  exact tail_any (ops := [.ref s3.heap.objs.size, v]) ht hT hg (by with_unfolding_all rfl)

/-- the items of xs[lo:hi] -/
def cutV (xs : List V) (lo hi : Option Int) : List V := (xs.drop (HT.sIx xs.length 0 lo)).take (HT.sIx xs.length xs.length hi - HT.sIx xs.length 0 lo)
theorem cutV_length (xs : List V) (lo hi : Option Int) : (cutV xs lo hi).length ≤ xs.length := by
  unfold cutV
  rw [List.length_take, List.length_drop]
  omega
end
end L2

namespace L2
open PySem PySem.Spec PyProof.Rows

/-- the place that an index of any sign means -/
def ixN (n : Nat) (i : Int) : Option Nat := if 0 ≤ i then (if i < n then some i.toNat else none) else if -(n : Int) ≤ i then some (i + n).toNat else none
def atI {α : Type} (xs : List α) (i : Int) : Option α := (ixN xs.length i).bind fun j => xs[j]?
theorem ixN_seq {n : Nat} {i : Int} {j : Nat} (h : ixN n i = some j) : seqIndex? i n = some j ∧ j < n ∧ -(n : Int) ≤ i ∧ i < n := by
  unfold ixN at h
  by_cases h0 : 0 ≤ i
  · rw [if_pos h0] at h
    by_cases h1 : i < n
    · rw [if_pos h1] at h
      have e : i.toNat = j := Option.some.inj h
      exact ⟨by rw [seqIndex_of h0 h1, e], by omega, by omega, h1⟩
    · rw [if_neg h1] at h; cases h
  · rw [if_neg h0] at h
    by_cases h1 : -(n : Int) ≤ i
    · rw [if_pos h1] at h
      have e : (i + n).toNat = j := Option.some.inj h
      exact ⟨by rw [seqIndex_neg (by omega) h1, e], by omega, h1, by omega⟩
    · rw [if_neg h1] at h; cases h
theorem atI_get {α : Type} {xs : List α} {i : Int} {v : α} (h : atI xs i = some v) : ∃ j, seqIndex? i xs.length = some j ∧ xs[j]? = some v ∧ j < xs.length ∧ -(xs.length : Int) ≤ i ∧ i < xs.length := by
  unfold atI at h
  cases e : ixN xs.length i with
  | none => rw [e] at h; cases h
  | some j =>
    rw [e] at h
    obtain ⟨h1, h2, h3, h4⟩ := ixN_seq e
    exact ⟨j, h1, h, h2, h3, h4⟩
theorem atI_nat {α : Type} {xs : List α} {j : Nat} {v : α} (h : xs[j]? = some v) : atI xs (j : Int) = some v := by
  have hj : j < xs.length := (List.getElem?_eq_some_iff.mp h).1
  have e : ixN xs.length (j : Int) = some j := by
    unfold ixN
    rw [if_pos (by omega), if_pos (by omega)]; simp
  unfold atI; rw [e]; exact h
/-- what stands as an index of a plain subscript -/
def PlainIx (b : Expr) : Prop := ∀ o i, subscripted b false o i = operate [o, i] (getItem o i)
/-- a subscript by values -/
def IxR (X : Cx) (r : R2) : Prop :=
  ∀ (value slice : Expr) (pins : List (Addr × Obj)) (s : Shared) (σ : St) (H : Hp) (x y : V) (v u : Value) (Q : VK), Inv X pins σ H s → RelV x v → RelV y u → r x y H Q →
    subscripted slice false v u = operate [v, u] (getItem v u) → wpAny (model X.prog X.w) X.A (subscriptTail value slice v u) (EP X pins σ Q) X.xe s
/-- a call of a builtin's method by values: the receiver, the arguments -/
def MtR (X : Cx) (id : String) (r : V → List V → Hp → VK → Prop) : Prop :=
  ∀ (pins : List (Addr × Obj)) (s : Shared) (σ : St) (H : Hp) (x : V) (xs : List V) (v : Value) (us : List Value) (Q : VK), Inv X pins σ H s → RelV x v → Vals xs us → r x xs H Q →
    wpAny (model X.prog X.w) X.A (call (.builtin id) (v :: us)) (EP X pins σ Q) X.xe s
section
variable {X : Cx} {a b : Expr} {ta tb : TE} {pos : Pos}
theorem IxR.or {r r' : R2} (h : IxR X r) (h' : IxR X r') : IxR X (fun x y H Q => r x y H Q ∨ r' x y H Q) := by
  intro value slice pins s σ H x y v u Q I rx ry q hs
  rcases q with q | q
  · exact h value slice pins s σ H x y v u Q I rx ry q hs
  · exact h' value slice pins s σ H x y v u Q I rx ry q hs
theorem MtR.or {id : String} {r r' : V → List V → Hp → VK → Prop} (h : MtR X id r) (h' : MtR X id r') : MtR X id (fun x xs H Q => r x xs H Q ∨ r' x xs H Q) := by
  intro pins s σ H x xs v us Q I rx rs q
  rcases q with q | q
  · exact h pins s σ H x xs v us Q I rx rs q
  · exact h' pins s σ H x xs v us Q I rx rs q
/-- a[b] -/
theorem pe_ix {r : R2} (hr : IxR X r) (ha : PE X a ta) (hb : PE X b tb) (hs : PlainIx b) : PE X (.Subscript a b pos) (tOp r ta tb) := by
  intro pins s σ H Q I h
  exact Subscript_ (binT ha hb I h fun v u s2 x y H2 I2 rx ry q => hr a b pins s2 σ H2 x y v u Q I2 rx ry q (hs _ _))

def rIxL (K : PySem.W.Frag) : R2 := fun x y H Q => ∃ p xs i v, x = .ref p ∧ y = .int i ∧ SqL K H p xs ∧ atI xs i = some v ∧ Q v H
def rIxT (K : PySem.W.Frag) : R2 := fun x y H Q => ∃ p xs i v, x = .ref p ∧ y = .int i ∧ SqT K H p xs ∧ atI xs i = some v ∧ Q v H
def rIxS : R2 := fun x y H Q => ∃ z i c, x = .str z ∧ y = .int i ∧ z.length ≤ sizeLine ∧ atI z.cps.toList i = some c ∧ Q (.str ⟨#[c]⟩) H
theorem ix_list : IxR X (rIxL X.K) := by
  intro value slice pins s σ H x y v u Q I rx ry h hs
  obtain ⟨p, xs, i, z, rfl, rfl, hq, he, q⟩ := h
  cases rx
  obtain ⟨t, rfl⟩ := ry
  obtain ⟨its, r, pl, hz⟩ := I.list hq
  obtain ⟨j, h1, h2, h3, h4, h5⟩ := atI_get he
  obtain ⟨w, ew, rw'⟩ := r.get h2
  have hl := r.length
  have hn := line63
  have fin : EP X pins σ Q w s := ⟨z, H, I, rw', q⟩
  by_cases h0 : 0 ≤ i
  · have hj : i.toNat = j := by
      rw [seqIndex_of h0 h5] at h1
      exact Option.some.inj h1
    exact item_listR pl.isList h0 (by omega) (by rw [hj]; simpa using ew) fin hs
  · have hj : (i + (its.toArray.size : Int)).toNat = j := by
      rw [seqIndex_neg (by omega) h4] at h1
      rw [List.size_toArray, ← hl]
      exact Option.some.inj h1
    exact subscriptTail_builtinR (x := w) pl.isList.typeIs slot_list_getitem.lookup
      (wpAny_getItem_list_neg (Q := fun r s' => r = w ∧ EP X pins σ Q r s') pl.isList (by omega) (by rw [List.size_toArray] <;> omega) (by omega) (by rw [hj]; simpa using ew) ⟨rfl, fin⟩) hs
theorem ix_tup : IxR X (rIxT X.K) := by
  intro value slice pins s σ H x y v u Q I rx ry h hs
  obtain ⟨p, xs, i, z, rfl, rfl, hq, he, q⟩ := h
  cases rx
  obtain ⟨t, rfl⟩ := ry
  obtain ⟨its, r, pl, hz⟩ := I.tuple hq
  obtain ⟨j, h1, h2, h3, h4, h5⟩ := atI_get he
  obtain ⟨w, ew, rw'⟩ := r.get h2
  have hl := r.length
  have hn := line63
  have fin : EP X pins σ Q w s := ⟨z, H, I, rw', q⟩
  exact subscriptTail_builtinR (x := w) pl.typeIs slot_tuple_getitem.lookup
    (getItem_tuple (j := j) (Q := fun r s' => r = w ∧ EP X pins σ Q r s') pl (by omega) (by omega) (by rw [List.size_toArray, ← hl]; exact h1) (by simpa using ew) ⟨rfl, fin⟩) hs
theorem ix_str : IxR X rIxS := by
  intro value slice pins s σ H x y v u Q I rx ry h hs
  obtain ⟨z, i, c, rfl, rfl, hz, he, q⟩ := h
  obtain ⟨t, rfl⟩ := rx
  obtain ⟨t', rfl⟩ := ry
  obtain ⟨j, h1, h2, h3, h4, h5⟩ := atI_get he
  have hl : z.cps.toList.length = z.length := by simp [Str.length]
  rw [hl] at h1 h4 h5
  have hn := line63
  exact tail_any (typeIs_str s z t) slot_str_getitem.lookup (getItem_str (c := c) (by
    have e1 : decide (i < -(2 ^ 63 : Int)) = false := decide_eq_false (by omega)
    have e2 : decide (i ≥ 2 ^ 63) = false := decide_eq_false (by omega)
    rw [e1, e2, Bool.or_false]) (by rw [h1]; simpa using h2) ⟨.str ⟨#[c]⟩, H, I.tok _, ⟨_, rfl⟩, q⟩) hs
/-- list, tuple or str -/
def rIx (K : PySem.W.Frag) : R2 := fun x y H Q => rIxL K x y H Q ∨ rIxT K x y H Q ∨ rIxS x y H Q
/-- the list's object behind a store -/
theorem mapSeq_set (its : List Value) (n j : Nat) (u : Value) : Obj.mapSeq (·.setIfInBounds j u) { cls := .type "list", data := .seq its.toArray n } = { cls := .type "list", data := .seq (its.set j u).toArray n } := by
  simp [Obj.mapSeq]
theorem Inv.lst {pins : List (Addr × Obj)} {σ : St} {H : Hp} {s : Shared} {p : Addr} {xs : List V} (I : Inv X pins σ H s) (h : H p = some (.lst xs)) :
    ∃ (its : List Value) (n : Nat), Vals xs its ∧ s.heap.get? p = some { cls := .type "list", data := .seq its.toArray n } ∧ xs.length ≤ sizeLine := by
  obtain ⟨z, its, n, r, e⟩ := I.hok p _ h
  exact ⟨its, n, r, e, z⟩
/-- the list at p is written by an update of its object -/
theorem Inv.lstUpd {pins : List (Addr × Obj)} {σ : St} {H : Hp} {s : Shared} {p : Addr} {xs ys : List V} {its its' : List Value} {n n' : Nat} {f : Obj → Obj} (I : Inv X pins σ H s) (h : H p = some (.lst xs))
    (ho : s.heap.get? p = some { cls := .type "list", data := .seq its.toArray n }) (hf : f { cls := .type "list", data := .seq its.toArray n } = { cls := .type "list", data := .seq its'.toArray n' }) (r : Vals ys its') (hz : ys.length ≤ sizeLine) (t : Nat) :
    Inv X pins σ (upd H p (.lst ys)) { s with heap := s.heap.update p f, toks := t } := by
  have e : (s.heap.update p f).get? p = some { cls := .type "list", data := .seq its'.toArray n' } := by
    rw [Heap.get?_update_self f ho (by rw [hf] <;> rfl), hf]
  refine I.write (x := p) (e := p) (by rw [h]; trivial) (.inl rfl) (fun b u hb q => (Heap.get?_update_other _ _ (Ne.symm hb)).trans q) ⟨_, e⟩ ?_
  exact ⟨hz, its', n', r, e⟩
def rSetL : V → V → V → Hp → (Hp → Prop) → Prop := fun o i v H Q => ∃ p xs k j, o = .ref p ∧ i = .int k ∧ H p = some (.lst xs) ∧ ixN xs.length k = some j ∧ Q (upd H p (.lst (xs.set j v)))
theorem set_list : PSet X rSetL := by
  intro pins s σ H o i v ov iv u Q I ro ri rv h
  obtain ⟨p, xs, k, j, rfl, rfl, hp, hj, q⟩ := h
  cases ro
  obtain ⟨t, rfl⟩ := ri
  obtain ⟨its, n, r, ho, hz⟩ := I.lst hp
  obtain ⟨h1, h2, h3, h4⟩ := ixN_seq hj
  have hl := r.length
  have hn := line63
  have I' : Inv X pins σ (upd H p (.lst (xs.set j v))) { s with heap := s.heap.update p (Obj.mapSeq (·.setIfInBounds j u)) } :=
    I.lstUpd hp ho (mapSeq_set its n j u) (r.set rv j) (by rw [List.length_set]; exact hz) s.toks
  by_cases h0 : 0 ≤ k
  · have hk : k.toNat = j := by
      rw [seqIndex_of h0 h4] at h1
      exact Option.some.inj h1
    exact PySem.W.ki_setAt ho h0 (by omega) (by rw [List.size_toArray, ← hl]; exact h4) (by rw [hk]; exact ⟨_, I', q⟩)
  · have hk : (k + (its.toArray.size : Int)).toNat = j := by
      rw [seqIndex_neg (by omega) h3] at h1
      rw [List.size_toArray, ← hl]
      exact Option.some.inj h1
    exact PySem.W.ki_setBack ho (by omega) (by rw [List.size_toArray, ← hl]; exact h3) (by omega) (by rw [hk]; exact ⟨_, I', q⟩)

theorem slice_bounds (lo hi : Option Int) (n : Nat) : (sliceBounds lo hi none n).1 = ((HT.sIx n 0 lo : Nat) : Int) ∧ (sliceBounds lo hi none n).2.1 = ((HT.sIx n n hi : Nat) : Int) ∧ (sliceBounds lo hi none n).2.2 = 1 := by
  refine ⟨?_, ?_, rfl⟩
  · cases lo with
    | none => simp [sliceBounds, HT.sIx]
    | some i =>
      simp only [sliceBounds, HT.sIx, Option.getD_none, show (1 : Int) > 0 by decide, if_true]
      by_cases h : i < 0
      · simp only [h, if_true] <;> omega
      · simp only [h, if_false] <;> omega
  · cases hi with
    | none => simp [sliceBounds, HT.sIx]
    | some i =>
      simp only [sliceBounds, HT.sIx, Option.getD_none, show (1 : Int) > 0 by decide, if_true]
      by_cases h : i < 0
      · simp only [h, if_true] <;> omega
      · simp only [h, if_false] <;> omega
theorem slicePick_cut (its : List Value) (lo hi : Option Int) : slicePick its.toArray lo hi none = ((its.drop (HT.sIx its.length 0 lo)).take (HT.sIx its.length its.length hi - HT.sIx its.length 0 lo)).toArray := by
  obtain ⟨h1, h2, h3⟩ := slice_bounds lo hi its.toArray.size
  unfold slicePick
  rw [h1, h2, h3]
  simp only [sliceRange_one, pick_run, List.size_toArray] <;> rfl
/-- xs[lo:hi] of a list: a new list -/
def rSlL (K : PySem.W.Frag) : V → Option Int → Option Int → Hp → VK → Prop := fun x lo hi H Q => ∃ a xs, x = .ref a ∧ SqL K H a xs ∧ ∀ p, H p = none → Q (.ref p) (upd H p (.lst (cutV xs lo hi)))
theorem sl_list : SlR X (rSlL X.K) := by
  intro pins s σ H x v vl vu lo hi sl Q I rx hs pl pu h
  obtain ⟨a, xs, rfl, hx, q⟩ := h
  cases rx
  obtain ⟨its, r, ht, hz⟩ := I.list hx
  have hlen := r.length
  refine ⟨"list", _, slot_list_getitem.lookup, ht.isList.typeIs, ?_⟩
  refine wpAny_getItem_list_slice ht.isList hs pl pu .none (by simp) ?_ (by rw [List.size_toArray] <;> omega)
  rw [slicePick_cut, ← hlen]
  refine ⟨.ref s.heap.objs.size, _, I.laid (t' := s.toks) (o := .lst (cutV xs lo hi)) (fun b ob q => Heap.get?_push_of_some _ q) (Nat.le_refl _) ?_, rfl, q _ (I.hok.fresh (Nat.le_refl _))⟩
  exact ⟨Nat.le_trans (cutV_length xs lo hi) hz, _, 0, (r.drop (HT.sIx xs.length 0 lo)).take (HT.sIx xs.length xs.length hi - HT.sIx xs.length 0 lo), Heap.get?_push_size _ rfl⟩

def flatV : V → Bool
  | .non => true
  | .bl _ => true
  | .int _ => true
  | .str _ => true
  | _ => false
/-- == of flat values -/
def eqV : V → V → Bool
  | .non, .non => true
  | .bl a, .bl b => a == b
  | .bl a, .int b => (if a then 1 else 0) == b
  | .int a, .bl b => a == (if b then 1 else 0)
  | .int a, .int b => a == b
  | .str a, .str b => a == b
  | _, _ => false
theorem eqAt_V {A : Around} {s : Shared} {y x : V} {u v : Value} (ry : RelV y u) (rx : RelV x v) (fy : flatV y = true) (fx : flatV x = true) : SeqAt.EqAt A s u v (eqV y x) := by
  cases y with
  | non =>
    cases ry
    cases x with
    | non => cases rx; exact SeqAt.EqAt.same _
    | bl b => cases rx; exact SeqAt.EqAt.none_bool b
    | int b => obtain ⟨t, rfl⟩ := rx; exact SeqAt.EqAt.none_int b t
    | str b => obtain ⟨t, rfl⟩ := rx; exact SeqAt.EqAt.none_str b t
    | _ => exact absurd (show false = true from fx) Bool.false_ne_true
  | bl a =>
    cases ry
    cases x with
    | non => cases rx; exact SeqAt.EqAt.bool_none a
    | bl b => cases rx; exact SeqAt.EqAt.bool_bool a b
    | int b => obtain ⟨t, rfl⟩ := rx; exact SeqAt.EqAt.bool_int a b t
    | str b => obtain ⟨t, rfl⟩ := rx; exact SeqAt.EqAt.bool_str a b t
    | _ => exact absurd (show false = true from fx) Bool.false_ne_true
  | int a =>
    obtain ⟨t', rfl⟩ := ry
    cases x with
    | non => cases rx; exact SeqAt.EqAt.int_none a t'
    | bl b => cases rx; exact SeqAt.EqAt.int_bool a t' b
    | int b => obtain ⟨t, rfl⟩ := rx; exact SeqAt.EqAt.int_int a t' b t
    | str b => obtain ⟨t, rfl⟩ := rx; exact SeqAt.EqAt.int_str a t' b t
    | _ => exact absurd (show false = true from fx) Bool.false_ne_true
  | str a =>
    obtain ⟨t', rfl⟩ := ry
    cases x with
    | non => cases rx; exact SeqAt.EqAt.str_none a t'
    | bl b => cases rx; exact SeqAt.EqAt.str_bool a t' b
    | int b => obtain ⟨t, rfl⟩ := rx; exact SeqAt.EqAt.str_int a t' b t
    | str b => obtain ⟨t, rfl⟩ := rx; exact SeqAt.EqAt.str_str a t' b t
    | _ => exact absurd (show false = true from fx) Bool.false_ne_true
  | _ => exact absurd (show false = true from fy) Bool.false_ne_true
/-- the items' answers, read off the values (a value's own answer does not lean on its token) -/
def eqU (x : V) (u : Value) : Bool := match u with
  | .none => eqV .non x
  | .bool b => eqV (.bl b) x
  | .int i _ => eqV (.int i) x
  | .str z _ => eqV (.str z) x
  | _ => false
theorem eqU_of {x y : V} {u : Value} (r : RelV y u) (f : flatV y = true) : eqU x u = eqV y x := by
  cases y with
  | non => cases r; rfl
  | bl b => cases r; rfl
  | int i => obtain ⟨t, rfl⟩ := r; rfl
  | str z => obtain ⟨t, rfl⟩ := r; rfl
  | _ => exact absurd (show false = true from f) Bool.false_ne_true
theorem mem_eqAt {A : Around} {s : Shared} {x : V} {v : Value} (rx : RelV x v) (fx : flatV x = true) : ∀ {xs : List V} {us : List Value}, Vals xs us → xs.all flatV = true → ∀ u ∈ us, SeqAt.EqAt A s u v (eqU x u)
  | _, _, .nil, _ => fun u hu => by cases hu
  | y :: xs, u :: us, .cons r t, f => fun u' hu => by
    rw [List.all_cons, Bool.and_eq_true] at f
    rcases List.mem_cons.mp hu with rfl | hu
    · rw [eqU_of r f.1]; exact eqAt_V r rx f.1 fx
    · exact mem_eqAt rx fx t f.2 u' hu
theorem call_len_seq : CallR X (.builtin "len") (fun xs H Q => ∃ p ys, xs = [.ref p] ∧ (SqL X.K H p ys ∨ SqT X.K H p ys) ∧ Q (.int ys.length) H) := by
  intro pins s σ H xs us Q I r h
  obtain ⟨p, ys, rfl, hq, q⟩ := h
  obtain ⟨u, rfl, rx⟩ := vals1 r
  cases rx
  have hn := line63
  rcases hq with hq | hq
  · obtain ⟨its, r', pl, hz⟩ := I.list hq
    have hlen := r'.length
    exact Calls.call_len_list pl.isList (by simp only [List.size_toArray] <;> omega) ⟨.int ys.length, H, I.tok _, ⟨s.toks + 1, by rw [List.size_toArray, hlen]⟩, q⟩
  · obtain ⟨its, r', pl, hz⟩ := I.tuple hq
    have hlen := r'.length
    exact len_tuple pl (by simp only [List.size_toArray] <;> omega) ⟨.int ys.length, H, I.tok _, ⟨s.toks + 1, by rw [List.size_toArray, hlen]⟩, q⟩
theorem call_len_str : CallR X (.builtin "len") (fun xs H Q => ∃ z, xs = [.str z] ∧ z.length ≤ sizeLine ∧ Q (.int z.length) H) := by
  intro pins s σ H xs us Q I r h
  obtain ⟨z, rfl, hz, q⟩ := h
  obtain ⟨u, rfl, t, rfl⟩ := vals1 r
  have hn := line63
  exact len_str (by omega) ⟨.int z.length, H, I.tok _, ⟨_, rfl⟩, q⟩
theorem CallR.or {f : Value} {r r' : List V → Hp → VK → Prop} (h : CallR X f r) (h' : CallR X f r') : CallR X f (fun xs H Q => r xs H Q ∨ r' xs H Q) := by
  intro pins s σ H xs us Q I rs q
  rcases q with q | q
  · exact h pins s σ H xs us Q I rs q
  · exact h' pins s σ H xs us Q I rs q
theorem call_list_of : CallR X (.type "list") (fun xs H Q => ∃ p ys, xs = [.ref p] ∧ (SqL X.K H p ys ∨ SqT X.K H p ys) ∧ ∀ l, H l = none → Q (.ref l) (upd H l (.lst ys))) := by
  intro pins s σ H xs us Q I r h
  obtain ⟨p, ys, rfl, hq, q⟩ := h
  obtain ⟨u, rfl, rx⟩ := vals1 r
  cases rx
  have fin : ∀ (its : List Value), Vals ys its → ys.length ≤ sizeLine → ∀ (h' : Heap) (c' : Nat), (∀ b o', s.heap.get? b = some o' → h'.get? b = some o') →
      h'.get? s.heap.objs.size = some { cls := .type "list", dict := none, data := .seq its.toArray c', slots := #[] } → EP X pins σ Q (.ref s.heap.objs.size) { s with heap := h' } := fun its r' hz h' c' kp e =>
    ⟨.ref s.heap.objs.size, _, I.laid (t' := s.toks) kp (Nat.le_refl _) (show ObjOk X.prog X.w _ h' _ (.lst ys) from ⟨hz, its, c', r', e⟩), rfl, q _ (I.hok.fresh (Nat.le_refl _))⟩
  rcases hq with hq | hq
  · obtain ⟨its, r', pl, hz⟩ := I.list hq
    have hlen := r'.length
    obtain ⟨o, ho, hc, n, hd⟩ := pl.isList
    exact call_list_seq p (.inl rfl) ho hc hd (fun h' c' kp e => fin its r' hz h' c' kp e) (by simp only [List.size_toArray] <;> omega)
  · obtain ⟨its, r', pl, hz⟩ := I.tuple hq
    have hlen := r'.length
    obtain ⟨o, ho, hc, n, hd⟩ := pl
    exact call_list_seq p (.inr rfl) ho hc hd (fun h' c' kp e => fin its r' hz h' c' kp e) (by simp only [List.size_toArray] <;> omega)
/-- the value is of that builtin type -/
def tyV (K : PySem.W.Frag) (T : String) (x : V) (H : Hp) : Prop := match x with
  | .str _ => T = "str"
  | .int _ => T = "int"
  | .ref p => (T = "list" ∧ ∃ xs, SqL K H p xs) ∨ (T = "tuple" ∧ ∃ o, K.lookup p = some o ∧ o.cls = .type "tuple" ∧ o.dict = none) ∨
      (T = "dict" ∧ ((∃ kvs, H p = some (.dK kvs)) ∨ ∃ kvs, H p = some (.dT kvs))) ∨ (T = "set" ∧ ∃ S n, H p = some (.set S n))
  | _ => False
theorem tyV_is {pins : List (Addr × Obj)} {σ : St} {H : Hp} {s : Shared} {T : String} {x : V} {v : Value} (I : Inv X pins σ H s) (r : RelV x v) (ty : tyV X.K T x H) :
    s.TypeIs v T ∧ ∀ a, v = .ref a → ∃ ob, s.heap.get? a = some ob ∧ ob.dict = none := by
  cases x with
  | str z =>
    obtain ⟨t, rfl⟩ := r
    cases (show T = "str" from ty)
    exact ⟨typeIs_str s z t, fun _ e => nomatch e⟩
  | int i =>
    obtain ⟨t, rfl⟩ := r
    cases (show T = "int" from ty)
    exact ⟨typeIs_int s i t, fun _ e => nomatch e⟩
  | ref p =>
    cases r
    rcases ty with ⟨rfl, xs, hq⟩ | ⟨rfl, o, hk, hc, hd⟩ | ⟨rfl, hk⟩ | ⟨rfl, S, n, hk⟩
    · obtain ⟨its, _, pl, _⟩ := I.list hq
      refine ⟨pl.isList.typeIs, fun a e => ?_⟩
      cases e
      obtain ⟨o, n, e, c, hd, _⟩ := pl
      exact ⟨o, e, hd⟩
    · refine ⟨⟨o, I.kIn p o hk, hc⟩, fun a e => ?_⟩
      cases e
      exact ⟨o, I.kIn _ o hk, hd⟩
    · have z : ∃ o, s.heap.get? p = some o ∧ o.ExactDict := by
        rcases hk with ⟨kvs, hk⟩ | ⟨kvs, hk⟩
        · obtain ⟨_, _, _, _, o, _, _, e, ex, _⟩ := I.hok p _ hk
          exact ⟨o, e, ex⟩
        · obtain ⟨_, _, _, _, o, _, _, e, ex, _⟩ := I.hok p _ hk
          exact ⟨o, e, ex⟩
      obtain ⟨o, e, ex⟩ := z
      refine ⟨⟨o, e, ex.1⟩, fun a e2 => ?_⟩
      cases e2
      exact ⟨o, e, ex.2.1⟩
    · obtain ⟨o, _, _, _, e, ex, _⟩ := I.hok p _ hk
      refine ⟨⟨o, e, ex.1⟩, fun a e2 => ?_⟩
      cases e2
      exact ⟨o, e, ex.2.1⟩
  | _ => exact False.elim ty
def tBM0 (K : PySem.W.Frag) (T : String) (r : V → List V → Hp → VK → Prop) (to : TE) : TE := fun σ H Q => to σ H fun x H1 => tyV K T x H1 ∧ r x [] H1 Q
def tBM (K : PySem.W.Frag) (T : String) (r : V → List V → Hp → VK → Prop) (to : TE) (t : TA) : TE := fun σ H Q => to σ H fun x H1 => tyV K T x H1 ∧ t σ H1 fun xs H2 => r x xs H2 Q
variable {o e : Expr} {es : List Expr} {to : TE} {t : TA} {name : Str} {apos cpos : Pos} {T id : String} {r : V → List V → Hp → VK → Prop}
theorem pe_bm (pa : PlainAttrs T) (slot : Slot T name id) (hty : typeOf (.builtin id) = pure (.type "method_descriptor")) (hm : MtR X id r) (ho : PE X o to) (ha : PA X (e :: es) t)
    (hbase : attributeBase o name X.env (eval o X.env) = eval o X.env := by rfl)
    (hfew : ((backTo cpos (starEach (e :: es) X.env)).all (fun x => !x.1) && (backToKw cpos (keywordEach [] X.env)).all (fun x => x.1.isSome)
      && decide ((e :: es).length + ([] : List Keyword).length + (if ([] : List Keyword).isEmpty then 0 else 1) < 30)) = true := by rfl)
    (hline : (apos.endLine == cpos.line) = true := by rfl) (hs : starEach (e :: es) X.env = (false, eval e X.env) :: starEach es X.env := by rfl) (hplain : (backTo cpos (starEach es X.env)).any (·.1) = false := by rfl) :
    PE X (.Call (.Attribute o name apos) (e :: es) [] cpos) (tBM X.K T r to t) := by
  intro pins s σ H Q I h
  refine wpAny_Call_method_late hbase hfew hline rfl (thn (ho pins s σ H _ I h) fun v s1 ⟨x, H1, I1, r1, ty, q1⟩ => ?_)
  obtain ⟨h1, h2⟩ := tyV_is I1 r1 ty
  refine ⟨T, id, pa, slot, hty, h1, h2, ?_⟩
  have hA := ha cpos pins s1 σ H1 _ I1 q1
  rw [hs] at hA ⊢
  refine Calls.callWith_builtin (by show (false || (backTo cpos (starEach es X.env)).any (·.1)) = false; rw [hplain] <;> rfl) (Calls.evalArgs_plain ?_)
  exact thn hA fun us s2 ⟨vs, H2, I2, r2, q2⟩ => hm pins s2 σ H2 x vs v us Q I2 r1 r2 q2
end
end L2

namespace L2
open PySem PySem.Spec PyProof.Rows

def MtM (X : Cx) (id : String) (r : V → List V → Hp → VK → Prop) : Prop :=
  ∀ (pins : List (Addr × Obj)) (s : Shared) (σ : St) (H : Hp) (x : V) (xs : List V) (v : Value) (us : List Value) (Q : VK), Inv X pins σ H s → RelV x v → Vals xs us → r x xs H Q →
    wpAny (model X.prog X.w) X.A (call (.builtin id) (v :: us)) (EP X pins σ Q) X.xe s

theorem Vals.one : ∀ {x : V} {us : List Value}, Vals [x] us → ∃ u, us = [u] ∧ RelV x u
  | _, _, .cons r .nil => ⟨_, rfl, r⟩
theorem Vals.two : ∀ {x y : V} {us : List Value}, Vals [x, y] us → ∃ u v, us = [u, v] ∧ RelV x u ∧ RelV y v
  | _, _, _, .cons r (.cons q .nil) => ⟨_, _, rfl, r, q⟩
theorem Vals.zero : ∀ {us : List Value}, Vals [] us → us = []
  | _, .nil => rfl
theorem Vals.dropLast {xs : List V} {us : List Value} (h : Vals xs us) : Vals xs.dropLast us.dropLast := by
  induction h with
  | nil => exact .nil
  | cons r t ih =>
    cases t with
    | nil => exact .nil
    | cons q t' => exact .cons r ih
theorem Vals.eraseIdx : ∀ {xs : List V} {us : List Value} (i : Nat), Vals xs us → Vals (xs.eraseIdx i) (us.eraseIdx i)
  | _, _, _, .nil => .nil
  | _, _, 0, .cons _ t => t
  | _, _, i + 1, .cons r t => .cons r (Vals.eraseIdx i t)
theorem Vals.reverse {xs : List V} {us : List Value} (h : Vals xs us) : Vals xs.reverse us.reverse := by
  induction h with
  | nil => exact .nil
  | cons r t ih => rw [List.reverse_cons, List.reverse_cons]; exact Vals.append ih (.cons r .nil)
section
variable {X : Cx} {pins : List (Addr × Obj)} {σ : St} {H : Hp} {s : Shared} {l b : Addr} {xs ys zs : List V}

theorem Inv.lset {its its' : List Value} {n : Nat} {f : Array Value → Array Value} {t' : Nat} (I : Inv X pins σ H s) (hH : H l = some (.lst xs))
    (e : s.heap.get? l = some { cls := .type "list", data := .seq its.toArray n }) (hf : f its.toArray = its'.toArray) (hv : Vals ys its') (hz : ys.length ≤ sizeLine) :
    Inv X pins σ (upd H l (.lst ys)) { s with heap := s.heap.update l (Obj.mapSeq f), toks := t' } := by
  have q := PySem.IsL.update e f
  rw [hf] at q
  refine I.write (x := l) (e := l) (by rw [hH]; exact trivial) (.inl rfl) (fun b' u hb hu => (Heap.get?_update_other s.heap (Obj.mapSeq f) (Ne.symm hb)).trans hu) ⟨_, q⟩ ?_
  exact ⟨hz, its', _, hv, q⟩
theorem Inv.lnew {its : List Value} {t' : Nat} (I : Inv X pins σ H s) (hv : Vals ys its) (hz : ys.length ≤ sizeLine) :
    Inv X pins σ (upd H s.heap.objs.size (.lst ys)) { s with heap := s.heap.push { cls := .type "list", data := .seq its.toArray }, toks := t' } :=
  I.laid (fun _ _ q => Heap.get?_push_of_some _ q) (Nat.le_refl _) ⟨hz, its, 0, hv, Heap.get?_push_size _ rfl⟩
theorem Inv.fresh (I : Inv X pins σ H s) : H s.heap.objs.size = none := I.hok.fresh (Nat.le_refl _)
theorem Inv.lstM (I : Inv X pins σ H s) (hH : H l = some (.lst xs)) : xs.length ≤ sizeLine ∧ ∃ (its : List Value) (n : Nat), Vals xs its ∧ xs.length = its.length ∧ s.heap.get? l = some { cls := .type "list", data := .seq its.toArray n } := by
  obtain ⟨z, its, n, r, e⟩ := I.hok l _ hH
  exact ⟨z, its, n, r, r.length, e⟩

end

section
variable {X : Cx}

def rAppend : V → List V → Hp → VK → Prop := fun x vs H Q => ∃ l xs y, x = .ref l ∧ vs = [y] ∧ H l = some (.lst xs) ∧ xs.length < sizeLine ∧ Q .non (upd H l (.lst (xs ++ [y])))
theorem mt_append : MtM X "list.append" rAppend := by
  intro pins s σ H x vs v us Q I rx rv h
  obtain ⟨l, xs, y, rfl, rfl, hH, hz, q⟩ := h
  cases rx
  obtain ⟨u, rfl, ru⟩ := rv.one
  obtain ⟨z, its, n, r, hl, e⟩ := I.lstM hH
  refine call_meets F.slot_list_append ⟨_, e, rfl⟩ F.entry_list_append (F.args_list_append_2 _ _) (PySem.list_append l its.toArray n u (by rw [List.size_toArray]; omega)) ⟨e, ?_⟩
  refine ⟨.non, _, I.lset (its' := its ++ [u]) hH e (by simp) (r.append (.cons ru .nil)) ?_, rfl, q⟩
  rw [List.length_append, List.length_singleton]
  omega

def rPop : V → List V → Hp → VK → Prop := fun x vs H Q => ∃ l xs y, x = .ref l ∧ vs = [] ∧ H l = some (.lst xs) ∧ xs[xs.length - 1]? = some y ∧ Q y (upd H l (.lst xs.dropLast))
def rCat : R2 := fun x y H Q => ∃ l b xs zs, x = .ref l ∧ y = .ref b ∧ H l = some (.lst xs) ∧ H b = some (.lst zs) ∧ xs.length + zs.length ≤ sizeLine ∧ ∀ p, H p = none → Q (.ref p) (upd H p (.lst (xs ++ zs)))
theorem op_cat : OpR X (binaryOp .Add) rCat := by
  intro pins s σ H x y v u Q I rx ry h
  obtain ⟨l, b, xs, zs, rfl, rfl, hH, hB, hz, q⟩ := h
  cases rx
  cases ry
  obtain ⟨z, its, n, r, hl, e⟩ := I.lstM hH
  obtain ⟨z2, its2, n2, r2, hl2, e2⟩ := I.lstM hB
  refine PySem.P.add_list e e2 ?_ (by rw [List.size_toArray, List.size_toArray]; omega)
  have ea : its.toArray ++ its2.toArray = (its ++ its2).toArray := by simp
  rw [ea]
  exact ⟨.ref _, _, I.lnew (t' := s.toks) (r.append r2) (by rw [List.length_append]; omega), rfl, q _ I.fresh⟩
end

section
variable {prog : Program} {w : World} {A : Around} {E : Value → Shared → Prop} {s : Shared}
end

section
variable {X : Cx}
end
end L2


namespace L2
open PySem PySem.Spec PyProof.Rows

section
variable {κ : Type} [DecidableEq κ]
def valV (kvs : List (κ × V)) (k : κ) : Option V := (kvs.find? fun kv => decide (kv.1 = k)).map (·.2)
/-- in its place, or at the end -/
def putK (kvs : List (κ × V)) (k : κ) (v : V) : List (κ × V) :=
  if (kvs.any fun kv => decide (kv.1 = k)) = true then kvs.map (fun kv => if kv.1 = k then (kv.1, v) else kv) else kvs ++ [(k, v)]
def dropK (kvs : List (κ × V)) (k : κ) : List (κ × V) := kvs.filter fun kv => decide (kv.1 ≠ k)

theorem valV_pos {p : κ × V} {r : List (κ × V)} {k : κ} (e : p.1 = k) : valV (p :: r) k = some p.2 := by simp [valV, List.find?_cons, e]
theorem valV_neg {p : κ × V} {r : List (κ × V)} {k : κ} (e : ¬ p.1 = k) : valV (p :: r) k = valV r k := by simp [valV, List.find?_cons, e]
theorem valV_any (k : κ) : ∀ kvs : List (κ × V), (kvs.any fun kv => decide (kv.1 = k)) = (valV kvs k).isSome
  | [] => rfl
  | p :: r => by
    rw [List.any_cons]
    by_cases e : p.1 = k
    · simp only [valV_pos e, decide_eq_true e, Bool.true_or, Option.isSome_some]
    · rw [valV_neg e, decide_eq_false e, Bool.false_or]; exact valV_any k r
theorem length_putK (kvs : List (κ × V)) (k : κ) (v : V) : (putK kvs k v).length ≤ kvs.length + 1 := by
  unfold putK
  split
  · rw [List.length_map]; omega
  · rw [List.length_append, List.length_cons, List.length_nil]; omega
theorem RelO.isSome_eq {o : Option V} {u : Option Value} (r : RelO o u) : o.isSome = u.isSome := by
  cases o with
  | none => cases u with
    | none => rfl
    | some _ => exact (show False from r).elim
  | some _ => cases u with
    | none => exact (show False from r).elim
    | some _ => rfl
theorem RelO.getD {o : Option V} {u : Option Value} {d : V} {d' : Value} (r : RelO o u) (rd : RelV d d') : RelV (o.getD d) (u.getD d') := by
  cases o with
  | none => cases u with
    | none => exact rd
    | some _ => exact (show False from r).elim
  | some _ => cases u with
    | none => exact (show False from r).elim
    | some _ => exact r

/-- raw tables of the same keys -/
theorem KV.val {kvs : List (κ × V)} {vs : List (κ × Value)} (r : KV kvs vs) (k : κ) : RelO (valV kvs k) (valueAt vs k) := by
  unfold KV at r
  induction r with
  | nil => exact True.intro
  | @cons p q ps qs h t ih =>
    obtain ⟨h1, h2⟩ := h
    by_cases e : p.1 = k
    · have e' : q.1 = k := h1.symm.trans e
      have b : valueAt (q :: qs) k = some q.2 := by simp [valueAt, List.find?_cons, e']
      rw [valV_pos e, b]; exact h2
    · have e' : ¬ q.1 = k := fun z => e (h1.trans z)
      have b : valueAt (q :: qs) k = valueAt qs k := by simp [valueAt, List.find?_cons, e']
      rw [valV_neg e, b]; exact ih
theorem KV.any {kvs : List (κ × V)} {vs : List (κ × Value)} (r : KV kvs vs) (k : κ) : (kvs.any fun kv => decide (kv.1 = k)) = vs.any fun kv => decide (kv.1 = k) := by
  unfold KV at r
  induction r with
  | nil => rfl
  | cons h t ih => rw [List.any_cons, List.any_cons, ih, h.1]
theorem KV.repl {kvs : List (κ × V)} {vs : List (κ × Value)} (r : KV kvs vs) (k : κ) {y : V} {u : Value} (ry : RelV y u) :
    KV (kvs.map fun kv => if kv.1 = k then (kv.1, y) else kv) (vs.map fun kv => if kv.1 = k then (kv.1, u) else kv) := by
  unfold KV at r ⊢
  induction r with
  | nil => exact .nil
  | @cons p q ps qs h t ih =>
    rw [List.map_cons, List.map_cons]
    refine .cons ?_ ih
    obtain ⟨h1, h2⟩ := h
    by_cases e : p.1 = k
    · rw [if_pos e, if_pos (h1.symm.trans e)]; exact ⟨h1, ry⟩
    · rw [if_neg e, if_neg (fun z => e (h1.trans z))]; exact ⟨h1, h2⟩
theorem KV.put {kvs : List (κ × V)} {vs : List (κ × Value)} (r : KV kvs vs) (k : κ) {y : V} {u : Value} (ry : RelV y u) : KV (putK kvs k y) (stored vs k u) := by
  unfold putK stored
  rw [r.any k]
  by_cases e : (vs.any fun kv => decide (kv.1 = k)) = true
  · rw [if_pos e, if_pos e]; exact r.repl k ry
  · rw [if_neg e, if_neg e]; exact Paired.snoc r ⟨rfl, ry⟩
theorem KV.drop {kvs : List (κ × V)} {vs : List (κ × Value)} (r : KV kvs vs) (k : κ) : KV (dropK kvs k) (without vs k) := by
  unfold KV at r ⊢
  unfold dropK without
  induction r with
  | nil => exact .nil
  | @cons p q ps qs h t ih =>
    obtain ⟨h1, h2⟩ := h
    rw [List.filter_cons, List.filter_cons]
    by_cases e : p.1 = k
    · have a : ¬ decide (p.1 ≠ k) = true := by simp [e]
      have b : ¬ decide (q.1 ≠ k) = true := by simp [h1.symm.trans e]
      rw [if_neg a, if_neg b]; exact ih
    · have e' : ¬ q.1 = k := fun z => e (h1.trans z)
      have a : decide (p.1 ≠ k) = true := by simp [e]
      have b : decide (q.1 ≠ k) = true := by simp [e']
      rw [if_pos a, if_pos b]; exact .cons ⟨h1, h2⟩ ih
theorem KV.keys {kvs : List (κ × V)} {vs : List (κ × Value)} (r : KV kvs vs) : kvs.map (·.1) = vs.map (·.1) := by
  unfold KV at r
  induction r with
  | nil => rfl
  | cons h t ih => rw [List.map_cons, List.map_cons, ih, h.1]
theorem KV.length {kvs : List (κ × V)} {vs : List (κ × Value)} (r : KV kvs vs) : kvs.length = vs.length := Paired.length r
end


theorem kV_is {P : Program} {w : World} {k : Key} {u : Value} (r : RelV (kV k) u) : (mixKind P w).is k u = true := by
  cases k with
  | inl i => obtain ⟨t, e⟩ := (show ∃ t, u = Value.int i t from r); subst e; exact mixKind_int P w i t
  | inr x => obtain ⟨t, e⟩ := (show ∃ t, u = Value.str x t from r); subst e; exact mixKind_str P w x t
theorem items_are {P : Program} {w : World} : ∀ {ks : List Key} {us : List Value}, Vals (ks.map kV) us → ItemsAre (mixKind P w) ks us
  | [], _, r => by rw [List.map_nil] at r; cases r; exact .nil
  | k :: ks, _, r => by
    rw [List.map_cons] at r
    cases r with
    | cons h t => exact .cons (kV_is h) (items_are t)

/-- raw entries of a dict with tuple keys -/
abbrev KT (H : Hp) : List (List Key × V) → List (List Key × Addr × Value) → Prop := Paired fun p q => p.1 = q.1 ∧ H q.2.1 = some (.tup (p.1.map kV)) ∧ RelV p.2 q.2.2
theorem KT.val {H : Hp} {kvs : List (List Key × V)} {xs : List (List Key × Addr × Value)} (r : KT H kvs xs) (k : List Key) : RelO (valV kvs k) ((atKey xs k).map (·.2)) := by
  induction r with
  | nil => exact True.intro
  | @cons p q ps qs h t ih =>
    obtain ⟨h1, _, h2⟩ := h
    by_cases e : p.1 = k
    · have e' : q.1 = k := h1.symm.trans e
      have b : atKey (q :: qs) k = some q.2 := by simp [atKey, List.find?_cons, e']
      rw [valV_pos e, b]; exact h2
    · have e' : ¬ q.1 = k := fun z => e (h1.trans z)
      have b : atKey (q :: qs) k = atKey qs k := by simp [atKey, List.find?_cons, e']
      rw [valV_neg e, b]; exact ih
theorem KT.repl {H : Hp} {kvs : List (List Key × V)} {xs : List (List Key × Addr × Value)} (r : KT H kvs xs) (k : List Key) {y : V} {u : Value} (ry : RelV y u) :
    KT H (kvs.map fun kv => if kv.1 = k then (kv.1, y) else kv) (xs.map (putAt k u)) := by
  induction r with
  | nil => exact .nil
  | @cons p q ps qs h t ih =>
    rw [List.map_cons, List.map_cons]
    refine .cons ?_ ih
    obtain ⟨h1, h2, h3⟩ := h
    unfold putAt
    by_cases e : p.1 = k
    · rw [if_pos e, if_pos (h1.symm.trans e)]; exact ⟨h1, h2, ry⟩
    · rw [if_neg e, if_neg (fun z => e (h1.trans z))]; exact ⟨h1, h2, h3⟩
theorem KT.put {H : Hp} {kvs : List (List Key × V)} {xs : List (List Key × Addr × Value)} (r : KT H kvs xs) (k : List Key) {b : Addr} {y : V} {u : Value} (hb : H b = some (.tup (k.map kV))) (ry : RelV y u) :
    KT H (putK kvs k y) (storedH xs k b u) := by
  have e : (kvs.any fun kv => decide (kv.1 = k)) = (atKey xs k).isSome := by
    rw [valV_any, (r.val k).isSome_eq, Option.isSome_map]
  unfold putK storedH
  rw [e]
  by_cases q : (atKey xs k).isSome = true
  · rw [if_pos q, if_pos q]; exact r.repl k ry
  · rw [if_neg q, if_neg q]; exact Paired.snoc r ⟨rfl, hb, ry⟩
theorem KT.keeps {H H' : Hp} {kvs : List (List Key × V)} {xs : List (List Key × Addr × Value)} (r : KT H kvs xs) (ht : ∀ b ys, H b = some (.tup ys) → H' b = some (.tup ys)) : KT H' kvs xs :=
  Paired.mapP r fun _ _ z => ⟨z.1, ht _ _ z.2.1, z.2.2⟩

section
variable {P : Program} {w : World} {H : Hp} {h : Heap} {a : Addr}
theorem rd_of {u : HO} (ok : HOk P w H h) (e : Rd H a u) : ObjOk P w H h a u := e.ok ok
theorem dk_rd {kvs : List (Key × V)} (ok : HOk P w H h) (e : Rd H a (.dK kvs)) : kvs.length ≤ sizeLine ∧ (a == sysModules) = false ∧ ∃ vs, KV kvs vs ∧ h.DictOf (mixKind P w) a vs :=
  show ObjOk P w H h a (.dK kvs) from rd_of ok e
theorem dk_of {kvs : List (Key × V)} (ok : HOk P w H h) (e : H a = some (.dK kvs)) : kvs.length ≤ sizeLine ∧ (a == sysModules) = false ∧ ∃ vs, KV kvs vs ∧ h.DictOf (mixKind P w) a vs := dk_rd ok (.inl e)
/-- a tracked tuple of ints and texts is a key -/
theorem key_of {ks : List Key} (ok : HOk P w H h) (e : H a = some (.tup (ks.map kV))) : (tupleKind (mixKind P w)).is h ks a := by
  obtain ⟨_, its, r, o, h1, h2, n, h3⟩ := (show ObjOk P w H h a (.tup (ks.map kV)) from ok a _ e)
  exact ⟨o, its.toArray, n, h1, h2, h3, by simpa using items_are r⟩
theorem dt_rd {kvs : List (List Key × V)} (ok : HOk P w H h) (e : Rd H a (.dT kvs)) : kvs.length ≤ sizeLine ∧ (a == sysModules) = false ∧
    ∃ xs, KT H kvs xs ∧ h.DictOfH (tupleKind (mixKind P w)) a xs := by
  obtain ⟨z, y, xs, r, o, es, ep, h1, h2, h3, h4, h5⟩ := (show ObjOk P w H h a (.dT kvs) from rd_of ok e)
  refine ⟨z, y, xs, r, o, es, ep, h1, h2, h3, h4, fun x hx => ?_, h5⟩
  have all : ∀ {l : List (List Key × V)} {m : List (List Key × Addr × Value)}, KT H l m → ∀ x ∈ m, (tupleKind (mixKind P w)).is h x.1 x.2.1 := by
    intro l m q
    induction q with
    | nil => intro x hx; exact nomatch hx
    | @cons p q ps qs hq t ih =>
      intro x hx
      rcases List.mem_cons.mp hx with e | hx
      · subst e
        exact key_of ok (by rw [← hq.1]; exact hq.2.1)
      · exact ih x hx
  exact all r x hx
end

/-- what the dict at a holds at the key y -/
def DGet (H : Hp) (a : Addr) (y : V) (r : Option V) : Prop :=
  (∃ kvs k, Rd H a (.dK kvs) ∧ y = kV k ∧ r = valV kvs k) ∨ ∃ kvs k b, Rd H a (.dT kvs) ∧ y = .ref b ∧ H b = some (.tup (k.map kV)) ∧ r = valV kvs k
/-- the heap behind a[y] = v -/
def DPut (H : Hp) (a : Addr) (y v : V) (H' : Hp) : Prop :=
  (∃ kvs k, H a = some (.dK kvs) ∧ y = kV k ∧ kvs.length < sizeLine ∧ H' = upd H a (.dK (putK kvs k v))) ∨
  ∃ kvs k b, H a = some (.dT kvs) ∧ y = .ref b ∧ H b = some (.tup (k.map kV)) ∧ kvs.length < sizeLine ∧ H' = upd H a (.dT (putK kvs k v))
theorem DGet.k {H : Hp} {a : Addr} {kvs : List (Key × V)} {k : Key} (e : H a = some (.dK kvs)) : DGet H a (kV k) (valV kvs k) := .inl ⟨kvs, k, .inl e, rfl, rfl⟩
theorem DGet.t {H : Hp} {a b : Addr} {kvs : List (List Key × V)} {k : List Key} (e : H a = some (.dT kvs)) (eb : H b = some (.tup (k.map kV))) : DGet H a (.ref b) (valV kvs k) := .inr ⟨kvs, k, b, .inl e, rfl, eb, rfl⟩
theorem DPut.k {H : Hp} {a : Addr} {kvs : List (Key × V)} {k : Key} {v : V} (e : H a = some (.dK kvs)) (hl : kvs.length < sizeLine) : DPut H a (kV k) v (upd H a (.dK (putK kvs k v))) := .inl ⟨kvs, k, e, rfl, hl, rfl⟩
theorem DPut.t {H : Hp} {a b : Addr} {kvs : List (List Key × V)} {k : List Key} {v : V} (e : H a = some (.dT kvs)) (eb : H b = some (.tup (k.map kV))) (hl : kvs.length < sizeLine) :
    DPut H a (.ref b) v (upd H a (.dT (putK kvs k v))) := .inr ⟨kvs, k, b, e, rfl, eb, hl, rfl⟩


section
variable {X : Cx} {pins : List (Addr × Obj)} {σ : St} {H : Hp} {s : Shared} {a : Addr} {y v : V} {u r : Value} {o : Option V} {A : Around} {E : Value → Shared → Prop}

theorem Inv.big (I : Inv X pins σ H s) : sysModules < s.heap.objs.size := by
  have h : mainGlobals < s.heap.objs.size := (I.mod.glob.keeps I.bk).lt
  exact Nat.lt_trans (by decide) h

/-- d[y], there -/
theorem d_getItem {Q : Value → Shared → Prop} (hu : A.units + 1 < cLine) (I : Inv X pins σ H s) (g : DGet H a y (some v)) (ry : RelV y u) (h : ∀ w' s', Inv X pins σ H s' → RelV v w' → Q w' s') :
    wpAny (model X.prog X.w) A (getItem (.ref a) u) Q E s := by
  rcases g with ⟨kvs, k, e, ey, l⟩ | ⟨kvs, k, b, e, ey, eb, l⟩
  · subst ey
    obtain ⟨z, hd, vs, rel, dd⟩ := dk_rd I.hok e
    obtain ⟨w', hw, rw'⟩ := RelO.some_of (v := v) (o := valueAt vs k) (by rw [l]; exact rel.val k)
    exact wpAny_getItem_of (kV_is ry) dd.mapOf hw (h w' _ (I.tok _) rw')
  · subst ey
    cases (show u = Value.ref b from ry)
    obtain ⟨z, hd, xs, rel, dd⟩ := dt_rd I.hok e
    obtain ⟨w', hw, rw'⟩ := RelO.some_of (v := v) (o := (atKey xs k).map (·.2)) (by rw [l]; exact rel.val k)
    obtain ⟨p, hp, hp2⟩ := Option.map_eq_some_iff.mp hw
    refine wpAny_getItem_heap (tupleKind_room_in1 hu) (key_of I.hok eb) dd hp ?_
    rw [hp2]
    exact h w' _ (I.tok _) rw'
/-- a dict's object is replaced -/
theorem d_write {h' : Heap} {t' : Nat} {ob : HO} (I : Inv X pins σ H s) (mu : Mut (H a)) (hs : Heap.SameBut a s.heap h') (he : ∃ q, h'.get? a = some q) (new : ObjOk X.prog X.w (upd H a ob) h' a ob) :
    Inv X pins σ (upd H a ob) { s with heap := h', toks := t' } :=
  I.write (x := a) (e := a) mu (.inl rfl) (fun b q hb z => (hs.2 b hb).trans z) he new
theorem dk_new {P : Program} {w : World} {H' : Hp} {h' : Heap} {kvs : List (Key × V)} {vs : List (Key × Value)} (z : kvs.length ≤ sizeLine) (hd : (a == sysModules) = false) (rel : KV kvs vs) (dd : h'.DictOf (mixKind P w) a vs) :
    ObjOk P w H' h' a (.dK kvs) := ⟨z, hd, vs, rel, dd⟩
end

section
variable {X : Cx} {pins : List (Addr × Obj)} {σ : St} {H : Hp} {s : Shared} {a : Addr} {kvs : List (Key × V)} {k : Key} {u : Value} {A : Around} {E : Value → Shared → Prop}
end


/-- the element of a subscription, not a slice -/
def NoSl (i : Expr) : Prop := ∀ ov iv, subscripted i false ov iv = operate [ov, iv] (getItem ov iv)
theorem subD_of {prog : Program} {w : World} {A : Around} {E : Value → Shared → Prop} {s : Shared} {env : Env} {value slice : Expr} {pos : Pos} {T id : String} {Q : Value → Shared → Prop}
    (hl : typeLookup (.type T) "__getitem__" = pure (some (.builtin id))) (hs : NoSl slice)
    (h : wpAny (model prog w) A (eval value env) (fun o s₁ => wpAny (model prog w) A (eval slice env) (fun i s₂ => s₂.TypeIs o T ∧ wpAny (model prog w) A (getItem o i) Q E s₂) E s₁) E s) :
    wpAny (model prog w) A (eval (.Subscript value slice pos) env) Q E s := by
  refine Subscript_ (wpAny_mono h (fun o s₁ h₁ => wpAny_mono h₁ (fun i s₂ h₂ => ?_) fun _ _ x => x) fun _ _ x => x)
  obtain ⟨hT, h₂⟩ := h₂
  unfold subscriptTail
  refine wpAny_bind ?_
  rw [getitemInPython_of_ne hT.not_modules]
  refine wpAny_bind (wpAny_specialOf hT hl ?_)
  have fin : wpAny (model prog w) A (subscripted slice false o i) (fun r s₃ => wpAny (model prog w) A (letTemporaryGo value o r >>= fun _ => pure r) Q E s₃) E s₂ := by
    rw [hs o i]
    exact wpAny_operating (wpAny_mono h₂ (fun r s₃ h₃ => wpAny_bind (wpAny_letTemporaryGo (wpAny_pure h₃))) fun _ _ x => x)
  first
    | exact wpAny_pure (wpAny_bind fin)
    | exact wpAny_bind (wpAny_pure (wpAny_bind fin))
    | exact wpAny_bind fin

theorem dict_typeIs {X : Cx} {pins : List (Addr × Obj)} {σ : St} {H : Hp} {s : Shared} {a : Addr} {y : V} {o : Option V} (I : Inv X pins σ H s) (g : DGet H a y o) : s.TypeIs (.ref a) "dict" := by
  rcases g with ⟨kvs, k, e, _, _⟩ | ⟨kvs, k, b, e, _, _, _⟩
  · obtain ⟨_, _, vs, _, dd⟩ := dk_rd I.hok e
    exact dd.typeIs
  · obtain ⟨_, _, xs, _, dd⟩ := dt_rd I.hok e
    exact dd.typeIs
/-- d[y] -/
def tDGet (td ty : TE) : TE := fun σ H Q => td σ H fun x H1 => ty σ H1 fun y H2 => ∃ a v, x = .ref a ∧ DGet H2 a y (some v) ∧ Q v H2
/-- y in d, y not in d -/
def tDIn (ty td : TE) : TE := fun σ H Q => ty σ H fun y H1 => td σ H1 fun x H2 => ∃ a o, x = .ref a ∧ DGet H2 a y o ∧ Q (.bl o.isSome) H2
/-- d[y] = v -/
def sDPut (td ty tv : TE) : TS := fun D σ H => tv σ H fun v H1 => td σ H1 fun x H2 => ty σ H2 fun y H3 => ∃ a H4, x = .ref a ∧ DPut H3 a y v H4 ∧ D.nx σ H4
section
variable {X : Cx} {o i e value : Expr} {pos pos' tpos : Pos} {td ty tv : TE}
theorem pe_dget (hu : X.A.units + 1 < cLine) (ho : PE X o td) (hi : PE X i ty) (hs : NoSl i) : PE X (.Subscript o i pos) (tDGet td ty) := by
  intro pins s σ H Q I h
  refine subD_of PySem.F.slot_dict_getitem.lookup hs (thn (ho pins s σ H _ I h) fun u s1 ⟨x, H1, I1, rx, q1⟩ => thn (hi pins s1 σ H1 _ I1 q1) fun iv s2 ⟨y, H2, I2, ry, a, v, ex, g, q2⟩ => ?_)
  subst ex
  obtain rfl : u = Value.ref a := rx
  exact ⟨dict_typeIs I2 g, d_getItem hu I2 g ry fun w' s3 I3 rw' => ⟨v, H2, I3, rw', q2⟩⟩
end


theorem dk_empty {P : Program} {w : World} {H : Hp} (h : Heap) (hb : sysModules < h.objs.size) : ObjOk P w H (h.push { cls := .type "dict", data := .dict #[] }) h.objs.size (.dK []) :=
  ⟨Nat.zero_le _, beq_eq_false_iff_ne.mpr (Ne.symm (Nat.ne_of_lt hb)), [], .nil, Heap.DictOf.new h⟩
/-- {}, to be a dict of the kind that is wanted -/
def tDNewK : TE := fun _ H Q => ∀ p, H p = none → Q (.ref p) (upd H p (.dK []))
section
variable {X : Cx} {pos : Pos}
end

/-- the pairs of a display, from the left -/
def tPairs : List (TE × TE) → St → Hp → (List (V × V) → Hp → Prop) → Prop
  | [], _, H, Q => Q [] H
  | (tk, tv) :: r, σ, H, Q => tk σ H fun x H1 => tv σ H1 fun y H2 => tPairs r σ H2 fun ps H3 => Q ((x, y) :: ps) H3
abbrev VV : List (V × V) → List (Value × Value) → Prop := Paired fun p q => RelV p.1 q.1 ∧ RelV p.2 q.2
def PPs (X : Cx) (pos : Pos) (keys : List (Option Expr)) (values : List Expr) (trs : List (TE × TE)) : Prop :=
  ∀ (pins : List (Addr × Obj)) (s : Shared) (σ : St) (H : Hp) (Q : List (V × V) → Hp → Prop), Inv X pins σ H s → tPairs trs σ H Q →
    wpAny (model X.prog X.w) X.A (evalPairs (pairTrees keys values X.env pos)) (fun vs s' => ∃ ps H', Inv X pins σ H' s' ∧ VV ps vs ∧ Q ps H') X.xe s
theorem pps_nil {X : Cx} {pos : Pos} : PPs X pos [] [] [] := fun pins s σ H Q I h => pairTrees_nil_walk ⟨[], H, I, .nil, h⟩
theorem pps_cons {X : Cx} {pos : Pos} {k v : Expr} {ks : List (Option Expr)} {vs : List Expr} {tk tv : TE} {trs : List (TE × TE)} (hk : PE X k tk) (hv : PE X v tv) (hr : PPs X pos ks vs trs) :
    PPs X pos (some k :: ks) (v :: vs) ((tk, tv) :: trs) := fun pins s σ H Q I h =>
  pairTrees_cons_walk (thn (hk pins s σ H _ I h) fun u s1 ⟨x, H1, I1, rx, q1⟩ => thn (hv pins s1 σ H1 _ I1 q1) fun w2 s2 ⟨y, H2, I2, ry, q2⟩ =>
    thn (hr pins s2 σ H2 _ I2 q2) fun ws s3 ⟨ps, H3, I3, rel, q3⟩ => ⟨(x, y) :: ps, H3, I3, .cons ⟨rx, ry⟩ rel, q3⟩)

def mergeK (kvs more : List (Key × V)) : List (Key × V) := more.foldl (fun acc kv => putK acc kv.1 kv.2) kvs
theorem KV.merge : ∀ {more : List (Key × V)} {rs : List (Key × Value)} {kvs : List (Key × V)} {vs : List (Key × Value)}, KV more rs → KV kvs vs → KV (mergeK kvs more) (merged vs rs) := by
  intro more rs kvs vs r
  unfold KV at r
  induction r generalizing kvs vs with
  | nil => intro q; exact q
  | @cons p q ps qs h t ih =>
    intro r0
    have e : KV (putK kvs p.1 p.2) (stored vs q.1 q.2) := by
      have := r0.put p.1 h.2
      rw [← h.1]; exact this
    exact ih e
theorem length_mergeK : ∀ (more kvs : List (Key × V)), (mergeK kvs more).length ≤ kvs.length + more.length
  | [], kvs => by show kvs.length ≤ kvs.length + 0; omega
  | p :: r, kvs => by
    have h1 := length_mergeK r (putK kvs p.1 p.2)
    have h2 := length_putK kvs p.1 p.2
    show (mergeK (putK kvs p.1 p.2) r).length ≤ _
    rw [List.length_cons]; omega
theorem carries_of {P : Program} {w : World} : ∀ {kvs : List (Key × V)} {ws : List (Value × Value)}, VV (kvs.map fun kv => (kV kv.1, kv.2)) ws → ∃ rs, Carries (mixKind P w) ws rs ∧ KV kvs rs
  | [], _, r => by rw [List.map_nil] at r; cases r; exact ⟨[], True.intro, .nil⟩
  | p :: kvs, _, r => by
    rw [List.map_cons] at r
    cases r with
    | @cons a b as bs h t =>
      obtain ⟨rs, c, q⟩ := carries_of (P := P) (w := w) t
      obtain ⟨b1, b2⟩ := b
      exact ⟨(p.1, b2) :: rs, ⟨kV_is h.1, rfl, c⟩, .cons ⟨rfl, h.2⟩ q⟩
/-- {k: v, ..} with keys ints and texts; the new dict stands empty while the pairs are made -/
def tDisp (trs : List (TE × TE)) : TE := fun σ H Q => ∀ p, H p = none → tPairs trs σ (upd H p (.dK [])) fun ps H2 => H2 p = some (.dK []) ∧ ∃ kvs : List (Key × V), ps = kvs.map (fun kv => (kV kv.1, kv.2)) ∧ kvs.length ≤ 15 ∧ Q (.ref p) (upd H2 p (.dK (mergeK [] kvs)))
theorem pe_disp {X : Cx} {pos : Pos} {keys : List (Option Expr)} {values : List Expr} {trs : List (TE × TE)} (h : PPs X pos keys values trs) (hall : keys.all (·.isSome) = true) (hl : keys.length = values.length) (h0 : keys ≠ [])
    (h15 : keys.length ≤ 15) : PE X (.Dict keys values pos) (tDisp trs) := by
  intro pins s σ H Q I q
  have hn := I.hok.fresh (Nat.le_refl s.heap.objs.size)
  have I1 := I.laid (a := s.heap.objs.size) (o := .dK []) (h' := s.heap.push { cls := .type "dict", data := .dict #[] }) (t' := s.toks) (fun _ _ q => Heap.get?_push_of_some _ q) (Nat.le_refl _) (dk_empty s.heap I.big)
  refine wpAny_Dict_walk (knd := mixKind X.prog X.w) hall hl h0 h15 (thn (h pins _ σ _ _ I1 (q _ hn)) fun ws s2 ⟨ps, H2, I2, rel, e, kvs, ep, lk, q2⟩ => ?_)
  subst ep
  obtain ⟨rs, c, rk⟩ := carries_of (P := X.prog) (w := X.w) rel
  obtain ⟨z, hd, vs0, r0, dd⟩ := dk_of I2.hok e
  cases r0
  refine ⟨rs, c, dd, fun h' dd' hs => ⟨.ref s.heap.objs.size, _, ?_, rfl, q2⟩⟩
  have hz : (mergeK [] kvs).length ≤ sizeLine := by
    have h1 := length_mergeK kvs []
    rw [List.length_nil] at h1
    rw [sizeLine_eq]; omega
  have he : ∃ q, h'.get? s.heap.objs.size = some q := let ⟨q, _, _, hq, _⟩ := dd'; ⟨q, hq⟩
  exact d_write I2 (by rw [e]; exact True.intro) hs he (dk_new hz hd (rk.merge .nil) dd')


/-- a method call o.m(e) of a built-in, with one argument: what must be seen of the text -/
structure M1 (X : Cx) (o : Expr) (m : Str) (apos : Pos) (e : Expr) (cpos : Pos) : Prop where
  base : attributeBase o m X.env (eval o X.env) = eval o X.env
  few : ((backTo cpos (starEach [e] X.env)).all (fun x => !x.1) && (backToKw cpos (keywordEach [] X.env)).all (fun x => x.1.isSome)
    && decide (([e] : List Expr).length + ([] : List Keyword).length + (if ([] : List Keyword).isEmpty then 0 else 1) < 30)) = true
  line : (apos.endLine == cpos.line) = true
  trees : backTo cpos (starEach [e] X.env) = [(false, eval e X.env)]
structure M2 (X : Cx) (o : Expr) (m : Str) (apos : Pos) (e f : Expr) (cpos : Pos) : Prop where
  base : attributeBase o m X.env (eval o X.env) = eval o X.env
  few : ((backTo cpos (starEach [e, f] X.env)).all (fun x => !x.1) && (backToKw cpos (keywordEach [] X.env)).all (fun x => x.1.isSome)
    && decide (([e, f] : List Expr).length + ([] : List Keyword).length + (if ([] : List Keyword).isEmpty then 0 else 1) < 30)) = true
  line : (apos.endLine == cpos.line) = true
  trees : backTo cpos (starEach [e, f] X.env) = [(false, eval e X.env), (false, eval f X.env)]

section
variable {X : Cx} {pins : List (Addr × Obj)} {σ : St} {H : Hp} {s : Shared} {a : Addr} {y d : V} {u r : Value} {o : Option V} {A : Around} {E : Value → Shared → Prop}
end

section
variable {X : Cx} {o e f : Expr} {apos cpos : Pos} {td ty tx : TE}
end

section
variable {X : Cx} {pins : List (Addr × Obj)} {σ : St} {H : Hp} {s : Shared} {a : Addr} {kvs : List (Key × V)} {A : Around} {E : Value → Shared → Prop}
end


section
variable {X : Cx} {pins : List (Addr × Obj)} {σ : St} {H : Hp} {s : Shared} {a : Addr} {y : V} {u : Value} {A : Around} {E : Value → Shared → Prop}
end
end L2

namespace Att
open PySem PySem.W PySem.Calls PyProof.Rows

theorem ints_of_wellAll {P : Params} {h : Heap} : ∀ (ns : List Int) (vs : List Value), WellAll P h vs (ns.map WData.int) → IntsAre vs ns := by
  intro ns
  induction ns with
  | nil =>
    intro vs w
    rw [List.map_nil] at w
    cases w
    exact .nil
  | cons n ns ih =>
    intro vs w
    rw [List.map_cons] at w
    cases w with
    | cons a b =>
      cases a
      exact .cons _ _ (ih _ b)

theorem script_of {l : OpenLaw} {n : Nat} (hn : l.most = some n) {P : Params} {h : Heap} {args : List WData} {vals : List Value}
    (hpre : l.row.toRowW.claim.pre args = true) (hwl : WellAll P h vals args) :
    ∃ a vs ns, vals = [Value.ref a] ∧ args = [WData.list (ns.map WData.int)] ∧ h.get? a = some { cls := .type "list", data := .seq vs.toArray } ∧ IntsAre vs ns ∧ ns.length ≤ n := by
  have hsh : WShape.hasAll [] args [.list .int] = true := (pre_splitW hpre).1
  have hc : l.pre.holds [] { args := args } = true := (pre_splitW hpre).2
  obtain ⟨d, r, rfl, h1, h2⟩ := hasAllW_cons hsh
  obtain rfl := hasAllW_nil h2
  obtain ⟨xs, rfl, h3⟩ := hasW_list h1
  obtain ⟨ns, rfl⟩ := items_int h3
  have hlen : ns.length ≤ n := by
    unfold OpenLaw.pre at hc
    have h4 : (WTm.not (.lt (.lit (.int (n : Int))) (.len (.arg 0)))).holds [] { args := [.list (ns.map .int)] } = true := by
      have h4 := (holds_andW hc).1
      rw [hn] at h4
      exact h4
    have h5 := condW_of h4 (w_not (w_lt w_lit (w_len_list (w_arg rfl))))
    rw [List.length_map] at h5
    refine Nat.le_of_not_lt fun q => ?_
    have q' : (n : Int) < ((ns.length : Nat) : Int) := by omega
    first
      | (rw [decide_eq_true q'] at h5; exact absurd h5 (by decide))
      | (simp at h5; omega)
  cases hwl with
  | cons w1 w2 =>
    cases w2
    cases w1 with
    | list ho hall => exact ⟨_, _, ns, rfl, rfl, ho, ints_of_wellAll ns _ hall, hlen⟩

theorem post_true (l : OpenLaw) (args : List WData) : l.row.toRowW.claim.post args (.bool true) args = true :=
  postW_of (r := l.row.toRowW) (X := (true == true))
    (show WShape.has [] (.bool true) .bool = true by first | rfl | decide | simp [WShape.has, WShape.arms, WShape.armsAll])
    (show (WTm.eq .res (.lit (.bool true))).value [] { args := args, res := some (.bool true), after := args } = some (.bool (true == true)) from w_eq_bool (w_res rfl) w_lit) rfl

/-- the same from a codeAny of the CALL (for a layer whose function contracts speak of calls) -/
theorem attach_call {l : OpenLaw} {n : Nat} {q : Program} {loose : List Str} {XP : (Str → Option Value) → Heap → Prop} {YP : World → Heap → Prop} {d : DefRec}
    (hn : l.most = some n) (hdf : d.params.defaults = [])
    (call : ∀ (w : World) (s₀ s₁ : Shared) (mg mb : Str → Option Value) (fa : Addr) (o : Obj) (pm cd doc : Value) (a : Addr) (vs : List Value) (ns : List Int),
      Ground q loose [] XP w s₀ mg mb s₁.heap → YP w s₁.heap →
      s₁.heap.get? fa = some o → o.data = .func (docDef d.name d.params d.body d.scope pm cd doc) → s₁.heap.CodeRec cd d.name → mg d.name = some (.ref fa) →
      s₁.heap.get? a = some { cls := .type "list", data := .seq vs.toArray } → IntsAre vs ns → ns.length ≤ n → s₁.gens = #[] →
      codeAny (model l.prog w) callerA (.call (.ref fa) ⟨[.ref a], []⟩) (fun r s' => r = .ok (.ret (.bool true)) ∧ OldK s₁.heap s'.heap ∧ s'.os = s₁.os ∧ AllBare s'.gens) s₁) :
    WalkO q loose XP YP l.row.toRowW d [] (fun f vs => PySem.call f vs) := by
  intro w s₀ s₁ mg mb G Y fa o pm cd doc dV kV ho hd hcd hD hmg hg args vals as hpre hlay hrd hwl hlo
  obtain rfl : dV = .none := Dflts.none hD hdf
  obtain rfl : kV = .none := Dflts.noKw hD
  obtain ⟨a, vs, ns, rfl, rfl, hobj, hints, hlen⟩ := script_of hn hpre hwl
  refine enter_call (codeAny_mono (call w s₀ s₁ mg mb fa o pm cd doc a vs ns G Y ho (fd_plain hd) hcd hmg hobj hints hlen hg) fun r s' hq => ?_)
  obtain ⟨rfl, h2, h3, h4⟩ := hq
  exact ⟨.inl ⟨.bool true, .bool true, [], rfl, fun _ => rfl, .bool true, post_true l _, fun _ => ⟨List.Pairwise.nil, fun _ hm => (nomatch hm)⟩⟩, h2, h3, h4⟩

section
variable {prog : Program} {w : World} {A : Around} {E : Value → Shared → Prop} {s : Shared} {K : Frag}

end
end Att

namespace L2
open PySem PySem.Spec PyProof.Rows

theorem vals_ints : ∀ {vs : List Value} {ns : List Int}, IntsAre vs ns → Vals (ns.map V.int) vs
  | _, _, .nil => .nil
  | _, _, .cons n t h => .cons ⟨t, rfl⟩ (vals_ints h)

end L2

namespace L2
open PySem PySem.Spec PyProof.Rows

end L2


namespace L2
open PySem PySem.Spec PyProof.Rows

/-- the j-th statement of a class's body -/
def inClass (s : Stmt) (j : Nat) : Stmt := match s with
  | .ClassDef _ _ _ body _ _ _ _ _ _ _ => body.getD j (.Pass ⟨0, 0, 0, 0⟩)
  | _ => .Pass ⟨0, 0, 0, 0⟩
def defArgs (s : Stmt) : Arguments := match s with
  | .FunctionDef _ a _ _ _ _ _ _ _ _ => a
  | _ => { posonlyargs := [], args := [], vararg := none, kwonlyargs := [], kw_defaults := [], kwarg := none, defaults := [] }
def defBody (s : Stmt) : List Stmt := match s with
  | .FunctionDef _ _ b _ _ _ _ _ _ _ => b
  | _ => []
def defScope (s : Stmt) : Scope := match s with
  | .FunctionDef _ _ _ _ _ _ sc _ _ _ => sc
  | _ => { kind := .function, names := [], isGenerator := false, isCoroutine := false }

abbrev CX0 : CXT := fun _ _ _ _ _ _ => False
abbrev E0 : XK := fun _ _ _ => False
theorem pass0 {X : Cx} : Passes CX0 X E0 := fun _ _ _ _ _ _ _ h => h.elim

structure Fun (K : PySem.W.Frag) (x qual : Str) (st : Stmt) (f : Addr) (fd : FuncData) : Prop where
  ex : ∃ (oc : Value) (od : Option Addr) (kV doc pm : Value) (an : Option Addr) (cdv ct : Value) (osl : Array (Option Value)),
    fd = PySem.W.fnOf x qual (defArgs st) (defBody st) (defScope st) .none kV doc pm an cdv ct ∧ K.lookup f = some ⟨oc, od, .func fd, osl⟩ ∧ PySem.W.codeIn K cdv qual = true
  kp : PySem.W.keepIn K (.ref f) = true
section
variable {P : Program} {w : World} {K : PySem.W.Frag} {mg : Str → Option Value} {base : Heap}
/-- THE RULE for a def: its body as a term of rules, and the reading of that term -/
theorem Fun.ok {x qual : Str} {st : Stmt} {f : Addr} {fd : FuncData} {N ps : List Str} {k : Nat} {sp : Sp} (F : Fun K x qual st f fd) (S : FnScope N ps (defScope st)) (len : ∀ vs H Q E, sp vs H Q E → vs.length = ps.length)
    (hbody : ∀ (cdv : Value) (A : Around) (outer : List Env) (s : Shared) (H : Hp) (vs : List V) (Q : VK) (E : XK), Room k (A.deeper (envOfC qual (defScope st) s.heap.objs.size f cdv)) → sp vs H Q E →
      ∃ t, PSs (cxOf CX0 P w K mg base N qual (defScope st) f cdv A outer s H E).nox (defBody st) t ∧ t { nx := fun _ H' => Q .non H', rt := Q } (start N vs) H) : FnOk P w K mg base CX0 (k + 1) f fd ps sp := by
  obtain ⟨oc, od, kV, doc, pm, an, cdv, ct, osl, rfl, lk, hcd⟩ := F.ex
  refine fn_of lk hcd S len fun A outer s H vs Q E hr hsp => ?_
  obtain ⟨t, h, q⟩ := hbody cdv A outer s H vs Q E hr hsp
  exact ⟨t, h.nox, q⟩
/-- how its arguments bind (no defaults): h is «fun _ _ _ _ _ _ us hl => match us, hl with | [_, _], _ => rfl», one _ a parameter -/
theorem Fun.binds {x qual : Str} {st : Stmt} {f : Addr} {fd : FuncData} {ps : List Str} (F : Fun K x qual st f fd)
    (h : ∀ (kV doc pm : Value) (an : Option Addr) (cdv ct : Value) (us : List Value), us.length = ps.length → bindArgs (PySem.W.fnOf x qual (defArgs st) (defBody st) (defScope st) .none kV doc pm an cdv ct) ⟨us, []⟩ = pure (ps.zip us)) : Binds K fd ps [] := by
  obtain ⟨oc, od, kV, doc, pm, an, cdv, ct, osl, rfl, lk, hcd⟩ := F.ex
  exact .all (h kV doc pm an cdv ct)
theorem fun_mk {x qual : Str} {st : Stmt} {f : Addr} {oc : Value} {od an : Option Addr} {osl : Array (Option Value)} {kV doc pm cdv ct : Value} (l : K.lookup f = some ⟨oc, od, .func (PySem.W.fnOf x qual (defArgs st) (defBody st) (defScope st) .none kV doc pm an cdv ct), osl⟩)
    (c : PySem.W.codeIn K cdv qual = true) (k : PySem.W.keepIn K (.ref f) = true) : Fun K x qual st f (PySem.W.fnOf x qual (defArgs st) (defBody st) (defScope st) .none kV doc pm an cdv ct) := ⟨⟨oc, od, kV, doc, pm, an, cdv, ct, osl, rfl, l, c⟩, k⟩
end
theorem hu_of {A : Around} {k : Nat} (hr : Room k A) : A.units + 1 < cLine := Nat.lt_of_le_of_lt (Nat.add_le_add_left (by decide : 1 ≤ 64) _) hr.units
section
variable {X : Cx}
theorem pv (i : Nat) {x : Str} {pos : Pos} (hN : X.N[i]? = some x := by rfl) (hv : Vis X.env.scope x := by first | exact Or.inl rfl | exact Or.inr (Or.inl rfl) | exact Or.inr (Or.inr rfl)) (hd : (x == ("__debug__" : Str)) = false := by decide)
    (hcd : (x == ("__classdict__" : Str)) = false := by decide) : PE X (.Name x pos) (tVar i) := pe_var hN hv hd hcd
end

/-- all that was tracked is as it was -/
def Same (H H' : Hp) : Prop := ∀ b o, H b = some o → H' b = some o
theorem Same.refl (H : Hp) : Same H H := fun _ _ h => h
theorem Same.trans {H H1 H2 : Hp} (a : Same H H1) (b : Same H1 H2) : Same H H2 := fun c o h => b c o (a c o h)
theorem Same.free {H H' : Hp} (e : Same H H') {l : Addr} (h : H' l = Option.none) : H l = Option.none := by
  cases q : H l with
  | none => rfl
  | some o =>
    rw [e l o q] at h
    cases h
theorem Same.seq {K : PySem.W.Frag} {H H' : Hp} {a : Addr} {xs : List V} (e : Same H H') (h : SqL K H a xs) : SqL K H' a xs := by
  rcases h with (h | ⟨o, h⟩) | h
  · exact .inl (.inl (e _ _ h))
  · exact .inl (.inr ⟨o, e _ _ h⟩)
  · exact .inr h

end L2


namespace L2
open PySem PySem.Spec PyProof.Rows
section
variable {X : Cx}
end
section
variable {κ : Type} [DecidableEq κ]
end
end L2


set_option maxHeartbeats 1000000
namespace Wa
open PySem PySem.Builtin PySem.Builtin.Str

abbrev Tab := List (List Bool)
def sgn (b : Bool) : Nat := if b then 120 else 45
def rowS (r : List Bool) : PySem.Str := ⟨(r.map sgn).toArray⟩
def oneS (b : Bool) : PySem.Str := ⟨#[sgn b]⟩
def Wid (t : Tab) (w : Nat) : Prop := ∀ r ∈ t, r.length = w
def turnT (t : Tab) (w : Nat) : Tab := (List.range w).map fun j => t.map fun r => r.getD j false
def widT (t : Tab) : Nat := (t.headD []).length

theorem sgn_inj {a b : Bool} (h : sgn a = sgn b) : a = b := by
  cases a <;> cases b <;> simp [sgn] at h <;> rfl
theorem sgn_map_inj : ∀ {r r' : List Bool}, r.map sgn = r'.map sgn → r = r'
  | [], [], _ => rfl
  | [], _ :: _, h => by simp at h
  | _ :: _, [], h => by simp at h
  | a :: r, b :: r', h => by
    simp only [List.map_cons, List.cons.injEq] at h
    rw [sgn_inj h.1, sgn_map_inj h.2]
theorem rowS_len (r : List Bool) : (rowS r).length = r.length := by simp [rowS, Str.length]
theorem rowS_list (r : List Bool) : (rowS r).cps.toList = r.map sgn := by simp [rowS]
theorem rowS_inj {r r' : List Bool} (h : rowS r = rowS r') : r = r' := by
  apply sgn_map_inj
  have := congrArg (fun s : PySem.Str => s.cps.toList) h
  simpa [rowS_list] using this
theorem rowS_count (r : List Bool) : (r.map sgn).count 120 + (r.map sgn).count 45 = r.length := by
  induction r with
  | nil => rfl
  | cons b r ih =>
    rw [List.map_cons, List.count_cons, List.count_cons, List.length_cons]
    cases b
    · rw [if_neg (by decide), if_pos (by decide)]; omega
    · rw [if_pos (by decide), if_neg (by decide)]; omega
theorem x_is : (PySem.Str.ofString "x") = ⟨#[120]⟩ := by decide +kernel
theorem m_is : (PySem.Str.ofString "-") = ⟨#[45]⟩ := by decide +kernel
theorem e_is : (PySem.Str.ofString "") = ⟨#[]⟩ := by decide +kernel
theorem mx_is : (PySem.Str.ofString "-x") = ⟨#[45, 120]⟩ := by decide +kernel

theorem turnT_len (t : Tab) (w : Nat) : (turnT t w).length = w := by simp [turnT]
theorem turnT_wid (t : Tab) (w : Nat) : Wid (turnT t w) t.length := by
  intro r hr
  obtain ⟨j, _, rfl⟩ := List.mem_map.mp hr
  simp
theorem turnT_get (t : Tab) (w j : Nat) (h : j < w) : (turnT t w)[j]? = some (t.map fun r => r.getD j false) := by simp [turnT, h]
theorem wid_head {t : Tab} {w : Nat} (h : Wid t w) (h0 : t ≠ []) : widT t = w := by
  cases t with
  | nil => exact absurd rfl h0
  | cons r t => exact h r List.mem_cons_self

/-- "".join of single signs -/
theorem glue_fold (bs : List Bool) : ∀ acc : Array Nat, (bs.map oneS).foldl (fun (acc : Array Nat) (p : PySem.Str) => acc ++ (⟨#[]⟩ : PySem.Str).cps ++ p.cps) acc = acc ++ (bs.map sgn).toArray := by
  induction bs with
  | nil => intro acc; simp
  | cons b bs ih =>
    intro acc
    rw [List.map_cons, List.foldl_cons, ih]
    simp [oneS]
theorem glued_ones (bs : List Bool) : glued ⟨#[]⟩ (bs.map oneS) = rowS bs := by
  unfold glued
  cases bs with
  | nil => rfl
  | cons b bs =>
    simp only [List.map_cons, List.drop_succ_cons, List.drop_zero, List.headD_cons]
    rw [glue_fold]
    simp [oneS, rowS]
end Wa
open PySem PySem.Builtin PySem.Builtin.Str
namespace Wa
/-- one turn of the search for a sign -/
def occStep (s : PySem.Str) (c limit : Nat) (r : Array Nat × Nat) (i : Nat) : Array Nat × Nat :=
  if (decide (r.1.size < limit) && decide (r.2 ≤ i) && decide (i + 1 ≤ s.length) && subAt s ⟨#[c]⟩ i) = true then (r.1.push i, i + 1) else r
theorem forIn_fold {β : Type} (f : Nat → β → β) : ∀ (l : List Nat) (b : β), (forIn (m := Id) l b fun i r => pure (ForInStep.yield (f i r))) = pure (l.foldl (fun r i => f i r) b)
  | [], _ => rfl
  | i :: l, b => by
    rw [List.forIn_cons]
    exact forIn_fold f l (f i b)
theorem occ_fold (s : PySem.Str) (c limit : Nat) : occurrences s ⟨#[c]⟩ 0 s.length limit = ((List.range (s.length + 1)).foldl (occStep s c limit) (#[], 0)).1.toList := by
  unfold occurrences
  simp only [Std.Legacy.Range.forIn_eq_forIn_range', Std.Legacy.Range.size]
  have e : (s.length + 1 - 0 + 1 - 1) / 1 = s.length + 1 := by simp
  rw [e, ← List.range_eq_range']
  have h := forIn_fold (fun i r => occStep s c limit r i) (List.range (s.length + 1)) ((#[], 0) : Array Nat × Nat)
  have e2 : (fun i (r : Array Nat × Nat) => (pure (ForInStep.yield (occStep s c limit r i)) : Id (ForInStep (Array Nat × Nat)))) = fun i __s =>
              if (decide (__s.fst.size < limit) && decide (__s.snd ≤ i) && decide (i + ({ cps := #[c] } : PySem.Str).length ≤ s.length) && subAt s { cps := #[c] } i) = true then
                pure (ForInStep.yield (__s.fst.push i, i + ({ cps := #[c] } : PySem.Str).length))
              else pure (ForInStep.yield (__s.fst, __s.snd)) := by
    funext i r
    have l1 : ({ cps := #[c] } : PySem.Str).length = 1 := rfl
    unfold occStep
    rw [l1]
    split <;> rfl
  rw [← e2, h]
  rfl
theorem subAt_one (s : PySem.Str) (c i : Nat) (h : i < s.length) : subAt s ⟨#[c]⟩ i = (s.cps.toList[i]? == some c) := by
  have hl : i < s.cps.size := h
  have e : s.cps.extract i (i + 1) = #[s.cps[i]] := by
    apply Array.ext
    · simp; omega
    · intro j h1 h2
      have : j = 0 := by simp at h2; omega
      subst this
      simp
  show (s.cps.extract i (i + 1) == #[c]) = _
  rw [e]
  have e3 : s.cps.toList[i]? = some s.cps[i] := by simp [hl]
  rw [e3]
  by_cases hc : s.cps[i] = c
  · simp [hc]
  · simp [hc]
/-- str.count of one sign -/
theorem occ_one (s : PySem.Str) (c : Nat) : (occurrences s ⟨#[c]⟩ 0 s.length (s.length + 1)).length = s.cps.toList.count c := by
  rw [occ_fold]
  have sub : ∀ i, i < s.length → subAt s ⟨#[c]⟩ i = (s.cps.toList[i]? == some c) := fun i h => subAt_one s c i h
  have hl : s.cps.toList.length = s.length := by simp [Str.length]
  generalize s.cps.toList = l at sub hl
  have key : ∀ k, k ≤ s.length → ((List.range k).foldl (occStep s c (s.length + 1)) (#[], 0)).1.size = (l.take k).count c ∧ ((List.range k).foldl (occStep s c (s.length + 1)) (#[], 0)).2 ≤ k := by
    intro k
    induction k with
    | zero => intro _; exact ⟨by simp, Nat.le_refl _⟩
    | succ k ih =>
      intro hk
      obtain ⟨h1, h2⟩ := ih (by omega)
      rw [List.range_succ, List.foldl_append]
      simp only [List.foldl_cons, List.foldl_nil]
      generalize (List.range k).foldl (occStep s c (s.length + 1)) (#[], 0) = r at h1 h2
      have hk' : k < l.length := by omega
      have le : (l.take k).count c ≤ k := Nat.le_trans List.count_le_length (by rw [List.length_take]; omega)
      have eg : l[k]? = some l[k] := List.getElem?_eq_getElem hk'
      rw [List.take_add_one, eg, Option.toList_some, List.count_append]
      unfold occStep
      rw [sub k (by omega), eg]
      by_cases hc : l[k] = c
      · have e1 : (some l[k] == some c) = true := by rw [hc]; exact beq_self_eq_true _
        have e2 : [l[k]].count c = 1 := by rw [hc]; simp
        rw [e1, e2, if_pos (by simp only [Bool.and_true, Bool.and_eq_true, decide_eq_true_eq]; omega)]
        simp only [Array.size_push]
        omega
      · have e1 : (some l[k] == some c) = false := beq_eq_false_iff_ne.mpr fun z => hc (Option.some.inj z)
        have e2 : [l[k]].count c = 0 := List.count_eq_zero.mpr fun z => hc (List.mem_singleton.mp z).symm
        rw [e1, e2, if_neg (by rw [Bool.and_false]; exact Bool.false_ne_true)]
        omega
  have last := key s.length (Nat.le_refl _)
  rw [List.range_succ, List.foldl_append]
  simp only [List.foldl_cons, List.foldl_nil]
  generalize (List.range s.length).foldl (occStep s c (s.length + 1)) (#[], 0) = r at last
  unfold occStep
  have e0 : decide (s.length + 1 ≤ s.length) = false := decide_eq_false (by omega)
  rw [e0, if_neg (by rw [Bool.and_false, Bool.false_and]; exact Bool.false_ne_true)]
  rw [← hl, List.take_length] at last
  simpa using last.1
end Wa
namespace Wa
open PySem

def Rise (xs : Array Nat) : Prop := ∀ i k, i < k → k < xs.size → xs.getD i 0 < xs.getD k 0
end Wa
namespace Wa
open PySem PySem.Spec PyProof.Rows

def keyOf (e : Int × Value) : Int := match e.2 with
  | .int k _ => k
  | _ => 0
structure SetGood (prog : Program) (w : World) (es : Array (Int × Value)) (t : SetTable) (ns : List Int) : Prop where
  el : ElemsOf (intKind prog w) es.toList
  perm : (es.toList.map keyOf).Perm ns
  fits : t.fits es.size = true
  rise : Rise t.place
  led : t.led = !w.params.followText "set-order"
def SetObj (prog : Program) (w : World) (o : Obj) (ns : List Int) : Prop := o.ExactSet ∧ ∃ es ep t, o.data = .set es ep t ∧ SetGood prog w es t ns
def SetAt (prog : Program) (w : World) (h : Heap) (a : Addr) (ns : List Int) : Prop := ns.Nodup ∧ ns.length < scanBound ∧ ∃ o, h.get? a = some o ∧ SetObj prog w o ns

theorem SetGood.size {prog : Program} {w : World} {es : Array (Int × Value)} {t : SetTable} {ns : List Int} (g : SetGood prog w es t ns) : es.size = ns.length := by
  have := g.perm.length_eq
  simpa using this
section
variable {prog : Program} {w : World} {A : Around} {E : Value → Shared → Prop} {s : Shared} {a : Addr}

theorem SetGood.store {h : Heap} {o : Obj} {es es' : Array (Int × Value)} {ep : Nat} {t t' : SetTable} {ns : List Int} (ho : h.get? a = some o) (hex : o.ExactSet) (hd : o.data = .set es ep t) (g : SetGood prog w es' t' ns) (nd : ns.Nodup) (lt : ns.length < scanBound) :
    (h.update a (Obj.putSet es' t')).get? a = some { o with data := .set es' (ep + 1) t' } ∧ SetAt prog w (h.update a (Obj.putSet es' t')) a ns := by
  have hg : (h.update a (Obj.putSet es' t')).get? a = some { o with data := .set es' (ep + 1) t' } := by
    have q := Heap.get?_update_self (Obj.putSet es' t') ho (by rw [putSet_of es' t' hd]; rfl)
    rw [putSet_of es' t' hd] at q
    exact q
  exact ⟨hg, nd, lt, _, hg, hex, es', ep + 1, t', rfl, g⟩

end
end Wa
namespace Wa
open PySem PySem.Spec PyProof.Rows
section
variable {prog : Program} {w : World}

abbrev freshSet (w : World) : Obj := { cls := .type "set", dict := none, data := .set #[] 0 (.fresh 0 0 (!w.params.followText "set-order")) }
variable {A : Around} {E : Value → Shared → Prop} {s : Shared}
end
end Wa
namespace Wa
open PySem PySem.Spec PyProof.Rows
namespace SF
end SF
end Wa
namespace Wa
open PySem PySem.Spec PyProof.Rows
section
variable {prog : Program} {w : World} {A : Around} {E : Value → Shared → Prop} {s : Shared}

/-- a set's iterator walks some order of its ints -/
structure SetWalk (prog : Program) (w : World) (A : Around) (D I : Addr) (fp : List Addr) (ns : List Int) (St : Nat → Heap → Prop) : Prop where
  ord : ∃ ms : List Int, ms.Perm ns ∧ Walks prog w A I fp [I] ms.length (fun i v => ∃ t, v = .int (ms.getD i 0) t) St
end
end Wa
namespace Wa
open PySem PySem.Spec PyProof.Rows
section
variable {prog : Program} {w : World} {A : Around} {E : Value → Shared → Prop} {s : Shared} {D I T : Addr} {o : Obj} {es : Array (Int × Value)} {ep : Nat} {t : SetTable} {ns : List Int}

end
end Wa
namespace Wa
open PySem PySem.Spec PyProof.Rows
section
variable {prog : Program} {w : World} {A : Around} {E : Value → Shared → Prop} {s : Shared} {D : Addr} {ns : List Int}

end
end Wa
namespace L2
open PySem PySem.Spec PyProof.Rows

/-- the block's scope, as it stands inside a def (or block) with the scope out -/
def relS (sc out : Scope) : Scope :=
  { sc with names := sc.names.map fun (n, k) => if (k == .free && out.kind == .function && out.names.lookup n == some .cell) then (n, .cell) else (n, k) }
/-- the cells that the block takes over -/
def clOf (cells : List (Str × Addr)) : List (Str × NameKind) → List (Str × Addr) → List (Str × Addr)
  | [], acc => acc
  | (n, k) :: r, acc => clOf cells r (if k == .free then (n, (cells.lookup n).getD 0) :: acc else acc)

theorem closure_go {env : Env} : ∀ (names : List (Str × NameKind)) (acc : List (Str × Addr)), (∀ n, (n, NameKind.free) ∈ names → ∃ c, env.cells.lookup n = some c) →
    (forIn names acc fun (x : Str × NameKind) (r : List (Str × Addr)) => (if (x.2 == NameKind.free) = true then (do let a ← cellOf env x.1; pure (ForInStep.yield ((x.1, a) :: r))) else pure (ForInStep.yield r) : Sem (ForInStep (List (Str × Addr))))) = pure (clOf env.cells names acc)
  | [], acc, _ => by rw [List.forIn_nil]; rfl
  | (n, k) :: r, acc, h => by
    rw [List.forIn_cons]
    have hr : ∀ m, (m, NameKind.free) ∈ r → ∃ c, env.cells.lookup m = some c := fun m hm => h m (List.mem_cons_of_mem _ hm)
    unfold clOf
    by_cases hk : (k == NameKind.free) = true
    · have e : k = NameKind.free := beq_iff_eq.mp hk
      obtain ⟨c, hc⟩ := h n (by rw [e]; exact List.mem_cons_self)
      simp only [hk, if_true]
      have e2 : cellOf env n = pure c := by unfold cellOf; rw [hc]
      rw [e2, hc]
      exact closure_go r _ hr
    · simp only [hk, if_false, Bool.false_eq_true]
      exact closure_go r _ hr
theorem closureFor_cells {sc : Scope} {env : Env} (h : ∀ n, (n, NameKind.free) ∈ sc.names → ∃ c, env.cells.lookup n = some c) : closureFor sc env = pure (clOf env.cells sc.names []) := by
  have e := closure_go (env := env) sc.names [] h
  unfold closureFor
  exact (congrArg (fun m : Sem (List (Str × Addr)) => m >>= fun r => pure r) e).trans rfl

theorem clOf_some {cells : List (Str × Addr)} {x : Str} : ∀ (names : List (Str × NameKind)) (acc : List (Str × Addr)), ((x, NameKind.free) ∈ names ∨ (acc.lookup x).isSome = true) → ((clOf cells names acc).lookup x).isSome = true
  | [], acc, h => h.elim (fun z => nomatch z) id
  | (n, k) :: r, acc, h => by
    unfold clOf
    by_cases hk : (k == NameKind.free) = true
    · rw [if_pos hk]
      by_cases hx : x = n
      · subst hx
        exact clOf_some r _ (.inr (by rw [List.lookup_cons, beq_self_eq_true]; rfl))
      · refine clOf_some r _ ?_
        rcases h with h | h
        · rcases List.mem_cons.mp h with e | h
          · exact absurd (Prod.mk.inj e).1 hx
          · exact .inl h
        · refine .inr ?_
          rw [List.lookup_cons, beq_eq_false_iff_ne.mpr hx]
          exact h
    · rw [if_neg hk]
      refine clOf_some r _ ?_
      rcases h with h | h
      · rcases List.mem_cons.mp h with e | h
        · have := (Prod.mk.inj e).2
          subst this
          exact absurd rfl hk
        · exact .inl h
      · exact .inr h
/-- what it takes over are the def's own cells -/
theorem clOf_is {cells : List (Str × Addr)} {x : Str} {c : Addr} : ∀ (names : List (Str × NameKind)) (acc : List (Str × Addr)), (∀ n, (n, NameKind.free) ∈ names → ∃ c, cells.lookup n = some c) → (∀ c, acc.lookup x = some c → cells.lookup x = some c) →
    (clOf cells names acc).lookup x = some c → cells.lookup x = some c
  | [], acc, _, h2, h => h2 c h
  | (n, k) :: r, acc, h1, h2, h => by
    unfold clOf at h
    refine clOf_is r _ (fun m hm => h1 m (List.mem_cons_of_mem _ hm)) (fun d hd => ?_) h
    by_cases hk : (k == NameKind.free) = true
    · rw [if_pos hk, List.lookup_cons] at hd
      by_cases hx : x = n
      · subst hx
        rw [beq_self_eq_true] at hd
        obtain ⟨c', hc'⟩ := h1 x (by rw [beq_iff_eq.mp hk]; exact List.mem_cons_self)
        rw [hc'] at hd
        rw [hc']; exact hd
      · rw [beq_eq_false_iff_ne.mpr hx] at hd
        exact h2 d hd
    · rw [if_neg hk] at hd
      exact h2 d hd
/-- a cell of the block: made at its entry, or taken over -/
theorem cellsFrom_is {x : Str} {c : Addr} : ∀ (names : List (Str × NameKind)) (n : Nat) (acc : List (Str × Addr)), (cellsFrom n names acc).lookup x = some c → n ≤ c ∨ acc.lookup x = some c
  | [], _, _, h => .inr h
  | (y, k) :: r, n, acc, h => by
    unfold cellsFrom at h
    split at h
    · rcases cellsFrom_is r _ _ h with q | q
      · exact .inl (by omega)
      · rw [List.lookup_cons] at q
        split at q
        · cases q; exact .inl (Nat.le_refl _)
        · exact .inr q
    · exact cellsFrom_is r _ _ h
/-- a name's own cell is a new one -/
theorem cellsFrom_new {lo : Nat} {x : Str} {c : Addr} : ∀ (names : List (Str × NameKind)) (n : Nat) (acc : List (Str × Addr)), lo ≤ n → (names.lookup x = some .cell ∨ ∀ d, acc.lookup x = some d → lo ≤ d) → (cellsFrom n names acc).lookup x = some c → lo ≤ c
  | [], _, _, _, h, e => h.elim (fun z => nomatch z) fun z => z c e
  | (y, k) :: r, n, acc, hlo, h, e => by
    unfold cellsFrom at e
    split at e
    · rename_i hk
      refine cellsFrom_new r (n + 1) _ (by omega) ?_ e
      by_cases hx : x = y
      · subst hx
        refine .inr fun d hd => ?_
        rw [List.lookup_cons, beq_self_eq_true] at hd
        cases hd; exact hlo
      · rw [List.lookup_cons, beq_eq_false_iff_ne.mpr hx] at h
        rcases h with h | h
        · exact .inl h
        · refine .inr fun d hd => ?_
          rw [List.lookup_cons, beq_eq_false_iff_ne.mpr hx] at hd
          exact h d hd
    · rename_i hk
      refine cellsFrom_new r n acc hlo ?_ e
      rcases h with h | h
      · rw [List.lookup_cons] at h
        split at h
        · cases h; exact absurd rfl hk
        · exact .inl h
      · exact .inr h
/-- one that is not the block's own is the one taken over -/
theorem cellsFrom_old {x : Str} : ∀ (names : List (Str × NameKind)) (n : Nat) (acc : List (Str × Addr)), (x, NameKind.cell) ∉ names → (cellsFrom n names acc).lookup x = acc.lookup x
  | [], _, _, _ => rfl
  | (y, k) :: r, n, acc, h => by
    have hr : (x, NameKind.cell) ∉ r := fun z => h (List.mem_cons_of_mem _ z)
    unfold cellsFrom
    split
    · rename_i hk
      have hx : x ≠ y := fun z => h (by rw [z, ← beq_iff_eq.mp hk]; exact List.mem_cons_self)
      rw [cellsFrom_old r _ _ hr, List.lookup_cons, beq_eq_false_iff_ne.mpr hx]
    · exact cellsFrom_old r _ _ hr
/-- two names do not share a new cell -/
theorem cellsFrom_inj {x y : Str} {c : Addr} {lo : Nat} : ∀ (names : List (Str × NameKind)) (n : Nat) (acc : List (Str × Addr)), lo ≤ n → (∀ a d, acc.lookup a = some d → d < n) → (∀ a b d, lo ≤ d → acc.lookup a = some d → acc.lookup b = some d → a = b) →
    lo ≤ c → (cellsFrom n names acc).lookup x = some c → (cellsFrom n names acc).lookup y = some c → x = y
  | [], _, _, _, _, h2, hc, e1, e2 => h2 _ _ c hc e1 e2
  | (z, k) :: r, n, acc, hlo, h1, h2, hc, e1, e2 => by
    unfold cellsFrom at e1 e2
    by_cases hk : (k == NameKind.cell) = true
    · rw [if_pos hk] at e1 e2
      refine cellsFrom_inj r (n + 1) _ (by omega) (fun a d hd => ?_) (fun a b d hd ha hb => ?_) hc e1 e2
      · rw [List.lookup_cons] at hd
        split at hd
        · cases hd; exact Nat.lt_succ_self _
        · exact Nat.lt_succ_of_lt (h1 a d hd)
      · rw [List.lookup_cons] at ha hb
        split at ha
        · rename_i ea
          split at hb
          · rename_i eb
            rw [beq_iff_eq.mp ea, beq_iff_eq.mp eb]
          · cases ha
            exact absurd (h1 b n hb) (Nat.lt_irrefl _)
        · split at hb
          · cases hb
            exact absurd (h1 a n ha) (Nat.lt_irrefl _)
          · exact h2 a b d hd ha hb
    · rw [if_neg hk] at e1 e2
      exact cellsFrom_inj r n acc hlo h1 h2 hc e1 e2

theorem pushed_cell : ∀ (names : List (Str × NameKind)) (h : Heap) (acc : List (Str × Addr)), (∀ x c, acc.lookup x = some c → ∃ v, h.IsCell c v) → ∀ (x : Str) (c : Addr), (cellsFrom h.objs.size names acc).lookup x = some c → ∃ v, (pushCells h names).IsCell c v
  | [], _, _, H, x, c, e => H x c e
  | (n, k) :: r, h, acc, H, x, c, e => by
    unfold cellsFrom at e
    unfold pushCells
    by_cases hk : (k == NameKind.cell) = true
    · rw [if_pos hk] at e ⊢
      refine pushed_cell r _ ((n, h.objs.size) :: acc) (fun y d hd => ?_) x c (by rw [Heap.size_push]; exact e)
      rw [List.lookup_cons] at hd
      split at hd
      · cases hd; exact ⟨none, _, Heap.get?_push_size _ rfl, rfl⟩
      · obtain ⟨v, z⟩ := H y d hd
        exact ⟨v, z.keeps fun b o q => Heap.get?_push_of_some _ q⟩
    · rw [if_neg hk] at e ⊢
      exact pushed_cell r h acc H x c e
/-- the block's environment is made -/
theorem wpAny_compEnv {M : Model} {A : Around} {E : Value → Shared → Prop} {s : Shared} {sc : Scope} {globals : Addr} {cl : List (Str × Addr)} {qual : Str} {out : Env} {Q : Env → Shared → Prop}
    (h : Q { scope := sc, locals := s.heap.objs.size, globals := globals, cells := cellsFrom (s.heap.objs.size + 1) sc.names cl, qual := qual, func := none, code := out.code, frame := out.frame, builtins := out.builtins }
      { s with heap := pushCells (s.heap.push { cls := .type "dict", data := .dict #[] }) sc.names }) :
    wpAny M A (newFunctionEnv sc globals cl [] qual none .none (some out)) Q E s := by
  simp only [newFunctionEnv, Option.isSome_some, if_true]
  refine wpAny_bind (wpAny_alloc ?_)
  refine wpAny_bind (wpAny_layCells _ (fun name kind cells => by cases hkc : kind == NameKind.cell <;> simp [hkc]) _ _ _ _ ?_)
  rw [show ({ s with heap := s.heap.push { cls := .type "dict", data := .dict #[] } } : Shared).heap.objs.size = s.heap.objs.size + 1 from Heap.size_push ..]
  exact wpAny_bind (wpAny_pure (wpAny_pure h))
end L2
namespace L2
open PySem PySem.Spec PyProof.Rows

/-- what is asked of a block's scope sc within out: N its names, lift: which of ON they are -/
structure CompSc (out sc : Scope) (ON N : List Str) (lift : List (Option Nat)) : Prop where
  kind : sc.kind = .function
  loc : ∀ x ∈ sc.names, x.2 = .local → sc.names.lookup x.1 = some .local
  fre : ∀ n, (n, NameKind.free) ∈ sc.names → out.names.lookup n = some .cell ∨ out.names.lookup n = some .free
  len : lift.length = N.length
  up : ∀ (i j : Nat) (x : Str), lift[i]? = some (some j) → N[i]? = some x → ON[j]? = some x ∧ (x, NameKind.free) ∈ sc.names ∧ (x, NameKind.cell) ∉ sc.names ∧ sc.names.lookup x = some .free
def upChk (sc : Scope) (ON : List Str) : List Str → List (Option Nat) → Bool
  | [], [] => true
  | _ :: N, none :: l => upChk sc ON N l
  | x :: N, some j :: l => decide (ON[j]? = some x) && decide ((x, NameKind.free) ∈ sc.names) && decide ((x, NameKind.cell) ∉ sc.names) && decide (sc.names.lookup x = some .free) && upChk sc ON N l
  | _, _ => false
def compChk (out sc : Scope) (ON N : List Str) (lift : List (Option Nat)) : Bool :=
  decide (sc.kind = .function) && (sc.names.all fun x => !decide (x.2 = .local) || decide (sc.names.lookup x.1 = some .local)) &&
  (sc.names.all fun x => !decide (x.2 = .free) || (decide (out.names.lookup x.1 = some .cell) || decide (out.names.lookup x.1 = some .free))) && upChk sc ON N lift
theorem upChk_len {sc : Scope} {ON : List Str} : ∀ {N : List Str} {l : List (Option Nat)}, upChk sc ON N l = true → l.length = N.length
  | [], [], _ => rfl
  | _ :: N, none :: l, h => by simp only [List.length_cons]; rw [upChk_len (N := N) (l := l) h]
  | x :: N, some j :: l, h => by
    unfold upChk at h
    simp only [Bool.and_eq_true] at h
    simp only [List.length_cons]; rw [upChk_len (N := N) (l := l) h.2]
  | [], _ :: _, h => by unfold upChk at h; cases h
  | _ :: _, [], h => by unfold upChk at h; cases h
theorem upChk_at {sc : Scope} {ON : List Str} : ∀ {N : List Str} {l : List (Option Nat)}, upChk sc ON N l = true → ∀ (i j : Nat) (x : Str), l[i]? = some (some j) → N[i]? = some x →
    ON[j]? = some x ∧ (x, NameKind.free) ∈ sc.names ∧ (x, NameKind.cell) ∉ sc.names ∧ sc.names.lookup x = some .free
  | [], [], _, _, _, _, e, _ => by simp at e
  | _ :: N, none :: l, h, 0, j, x, e, _ => by simp at e
  | _ :: N, none :: l, h, i + 1, j, x, e, e2 => upChk_at (N := N) (l := l) h i j x (by simpa using e) (by simpa using e2)
  | y :: N, some k :: l, h, 0, j, x, e, e2 => by
    unfold upChk at h
    simp only [Bool.and_eq_true, decide_eq_true_eq] at h
    have e1 : k = j := by simpa using e
    have e3 : y = x := by simpa using e2
    subst e1; subst e3
    exact ⟨h.1.1.1.1, h.1.1.1.2, h.1.1.2, h.1.2⟩
  | y :: N, some k :: l, h, i + 1, j, x, e, e2 => by
    unfold upChk at h
    simp only [Bool.and_eq_true] at h
    exact upChk_at (N := N) (l := l) h.2 i j x (by simpa using e) (by simpa using e2)
  | [], _ :: _, h, _, _, _, _, _ => by unfold upChk at h; cases h
  | _ :: _, [], h, _, _, _, _, _ => by unfold upChk at h; cases h
theorem CompSc.of {out sc : Scope} {ON N : List Str} {lift : List (Option Nat)} (h : compChk out sc ON N lift = true) : CompSc out sc ON N lift := by
  unfold compChk at h
  simp only [Bool.and_eq_true, decide_eq_true_eq, List.all_eq_true, Bool.or_eq_true, Bool.not_eq_true', decide_eq_false_iff_not] at h
  obtain ⟨⟨⟨h1, h2⟩, h3⟩, h4⟩ := h
  exact ⟨h1, fun x hx e => (h2 x hx).elim (fun z => absurd e z) id, fun n hn => (h3 _ hn).elim (fun z => absurd rfl z) id, upChk_len h4, upChk_at h4⟩

/-- the block's slots: what is taken over -/
def liftσ (lift : List (Option Nat)) (σ : St) : St := lift.map fun o => o.bind fun j => (σ[j]?).join
theorem liftσ_at {lift : List (Option Nat)} {σ : St} {i : Nat} {v : V} (h : (liftσ lift σ)[i]? = some (some v)) : ∃ j, lift[i]? = some (some j) ∧ σ[j]? = some (some v) := by
  unfold liftσ at h
  rw [List.getElem?_map] at h
  cases e : lift[i]? with
  | none => rw [e] at h; cases h
  | some o =>
    rw [e] at h
    cases o with
    | none => cases h
    | some j =>
      refine ⟨j, rfl, ?_⟩
      have h' : (σ[j]?).join = some v := Option.some.inj h
      cases q : σ[j]? with
      | none => rw [q] at h'; cases h'
      | some z => rw [q] at h'; rw [show z = some v from h']
theorem liftσ_len {lift : List (Option Nat)} {σ : St} : (liftσ lift σ).length = lift.length := by unfold liftσ; rw [List.length_map]

/-- the block's environment -/
def compE (env : Env) (sc : Scope) (C : Addr) : Env :=
  { scope := relS sc env.scope, locals := C, globals := env.globals, cells := cellsFrom (C + 1) sc.names (clOf env.cells sc.names []), qual := env.qual, func := none, code := env.code, frame := env.frame, builtins := env.builtins }
/-- the state, heap and records at the block's entry -/
structure CB where
  s : Shared
  H : Hp
  ex : List Addr
def cxComp (X : Cx) (sc : Scope) (N : List Str) (b : CB) : Cx where
  prog := X.prog
  w := X.w
  K := X.K
  mg := X.mg
  base := X.base
  A := X.A
  N := N
  s₀ := b.s
  H₀ := b.H
  env := compE X.env sc b.s.heap.objs.size
  outer := X.stack
  stack := X.stack
  ex := b.ex
  fn := fun x => decide (sc.names.lookup x = some .cell)
  calm := X.calm
  pn := []
  xe := fun _ _ => False

theorem relS_lookup {sc out : Scope} {x : Str} : ∀ {names : List (Str × NameKind)} {k : NameKind},
    (names.map fun (n, k) => if (k == NameKind.free && out.kind == .function && out.names.lookup n == some .cell) then (n, NameKind.cell) else (n, k)).lookup x = some k →
    names.lookup x = some k ∨ (names.lookup x = some .free ∧ k = .cell)
  | [], _, h => by cases h
  | (n, k') :: r, k, h => by
    rw [List.map_cons] at h
    rw [List.lookup_cons]
    by_cases hx : (x == n) = true
    · by_cases hc : (k' == NameKind.free && out.kind == .function && out.names.lookup n == some .cell) = true
      · have hf : k' = NameKind.free := by
          simp only [Bool.and_eq_true] at hc
          exact beq_iff_eq.mp hc.1.1
        simp only [hc, if_true, List.lookup_cons, hx] at h
        simp only [hx, hf]
        exact .inr ⟨trivial, (Option.some.inj h).symm⟩
      · simp only [hc, if_false, List.lookup_cons, hx, Bool.false_eq_true] at h
        simp only [hx]
        exact .inl h
    · have hx' : (x == n) = false := by simpa using hx
      have h' : (r.map fun (n, k) => if (k == NameKind.free && out.kind == .function && out.names.lookup n == some .cell) then (n, NameKind.cell) else (n, k)).lookup x = some k := by
        by_cases hc : (k' == NameKind.free && out.kind == .function && out.names.lookup n == some .cell) = true
        · simp only [hc, if_true, List.lookup_cons, hx'] at h
          exact h
        · simp only [hc, if_false, List.lookup_cons, hx', Bool.false_eq_true] at h
          exact h
      rw [hx']
      exact relS_lookup (sc := sc) h'
theorem relS_free {out : Scope} {x : Str} : ∀ {names : List (Str × NameKind)}, names.lookup x = some .free →
    (names.map fun (n, k) => if (k == NameKind.free && out.kind == .function && out.names.lookup n == some .cell) then (n, NameKind.cell) else (n, k)).lookup x = some .cell ∨
    (names.map fun (n, k) => if (k == NameKind.free && out.kind == .function && out.names.lookup n == some .cell) then (n, NameKind.cell) else (n, k)).lookup x = some .free
  | [], h => by cases h
  | (n, k') :: r, h => by
    rw [List.map_cons]
    rw [List.lookup_cons] at h
    by_cases hx : (x == n) = true
    · simp only [hx] at h
      have hk : k' = .free := Option.some.inj h
      subst hk
      by_cases hc : (NameKind.free == NameKind.free && out.kind == .function && out.names.lookup n == some .cell) = true
      · left
        simp only [hc, if_true, List.lookup_cons, hx]
      · right
        simp only [hc, if_false, List.lookup_cons, hx, Bool.false_eq_true]
    · have hx' : (x == n) = false := by simpa using hx
      rw [hx'] at h
      have ih := relS_free (out := out) h
      by_cases hc : (k' == NameKind.free && out.kind == .function && out.names.lookup n == some .cell) = true
      · simp only [hc, if_true, List.lookup_cons, hx']
        exact ih
      · simp only [hc, if_false, List.lookup_cons, hx', Bool.false_eq_true]
        exact ih

section
variable {X : Cx} {pins : List (Addr × Obj)} {σ : St} {H H' : Hp} {s s' : Shared} {sc : Scope} {N : List Str} {lift : List (Option Nat)} {fp : List Addr}
abbrev accObj (its : List Value) (n : Nat) : Obj := { cls := .type "list", data := .seq its.toArray n }
/-- the state behind the new list -/
abbrev accS (s : Shared) : Shared := { s with heap := s.heap.push (accObj [] 0) }
abbrev cbOf (s : Shared) (H : Hp) (fp : List Addr) : CB := ⟨accS s, H, s.heap.objs.size :: fp⟩
abbrev inS (s : Shared) (sc : Scope) : Shared := { s with heap := pushCells ((accS s).heap.push { cls := .type "dict", data := .dict #[] }) sc.names }

theorem accS_size (s : Shared) : (accS s).heap.objs.size = s.heap.objs.size + 1 := Heap.size_push ..
theorem accS_keep (s : Shared) : ∀ b o, s.heap.get? b = some o → (accS s).heap.get? b = some o := fun _ _ e => Heap.get?_push_of_some _ e
theorem inS_keep (s : Shared) (sc : Scope) : ∀ b o, (accS s).heap.get? b = some o → (inS s sc).heap.get? b = some o := fun b o e => pushCells_keeps _ _ b o (Heap.get?_push_of_some _ e)

theorem Inv.hasCell (I : Inv X pins σ H s) (S : CompSc X.env.scope sc X.N N lift) : ∀ n, (n, NameKind.free) ∈ sc.names → ∃ c, X.env.cells.lookup n = some c :=
  fun n hn => I.ok.has n (S.fre n hn)
/-- the block's cells -/
theorem Inv.compCell (I : Inv X pins σ H s) (S : CompSc X.env.scope sc X.N N lift) {x : Str} {c : Addr} (h : (compE X.env sc (accS s).heap.objs.size).cells.lookup x = some c) :
    (accS s).heap.objs.size + 1 ≤ c ∨ X.env.cells.lookup x = some c := by
  rcases cellsFrom_is _ _ _ h with q | q
  · exact .inl q
  · exact .inr (clOf_is _ _ (I.hasCell S) (fun _ z => by cases z) q)
theorem Inv.oldCell (I : Inv X pins σ H s) {x : Str} {c : Addr} (h : X.env.cells.lookup x = some c) : c < s.heap.objs.size :=
  let ⟨_, q⟩ := I.cell x c h; q.lt

theorem Inv.compOk (I : Inv X pins σ H s) (S : CompSc X.env.scope sc X.N N lift) (hf : ∀ b ∈ fp, FpOk X pins H b) (ho : ∀ b ∈ fp, b < s.heap.objs.size) : (cxComp X sc N (cbOf s H fp)).Ok := by
  have sz := accS_size s
  have exlt : ∀ b ∈ s.heap.objs.size :: fp, b < (accS s).heap.objs.size := fun b hb => by
    rw [sz]
    rcases List.mem_cons.mp hb with e | hb
    · rw [e]; exact Nat.lt_succ_self _
    · exact Nat.lt_succ_of_lt (ho b hb)
  have exne : ∀ b ∈ s.heap.objs.size :: fp, ∀ x c, X.env.cells.lookup x = some c → c ≠ b := fun b hb x c e => by
    rcases List.mem_cons.mp hb with z | hb
    · rw [z]; exact Nat.ne_of_lt (I.oldCell e)
    · exact (hf b hb).2.2.2.2.1 x c e
  refine ⟨I.ok.mod, S.kind, I.ok.glob, I.ok.blt, Nat.le_refl _, fun x y c h1 h2 => ?_, fun x hx => ?_, fun x c hx h => ?_, I.ok.hd, I.ok.frames, .inl rfl, fun b hb => ⟨Nat.ne_of_lt (exlt b hb), fun x c h => ?_⟩,
    fun b o e => ⟨accS_keep s b o (I.bs b o e).1, (I.bs b o e).2⟩, ?_, fun b o e hb => ?_, fun b hb => ?_, ?_, I.stkFree⟩
  · by_cases hc : (accS s).heap.objs.size + 1 ≤ c
    · refine cellsFrom_inj (lo := (accS s).heap.objs.size + 1) _ _ _ (Nat.le_refl _) (fun a d hd => ?_) (fun a b d hd ha _ => ?_) hc h1 h2
      · have := I.oldCell (clOf_is _ _ (I.hasCell S) (fun _ z => by cases z) hd)
        exact Nat.lt_of_lt_of_le this (by rw [sz]; exact Nat.le_trans (Nat.le_succ _) (Nat.le_succ _))
      · have := I.oldCell (clOf_is _ _ (I.hasCell S) (fun _ z => by cases z) ha)
        exact absurd (Nat.lt_of_lt_of_le this (Nat.le_trans (by rw [sz]; exact Nat.le_trans (Nat.le_succ _) (Nat.le_succ _)) hd)) (Nat.lt_irrefl _)
    · have o1 := (I.compCell S h1).elim (fun z => absurd z hc) id
      have o2 := (I.compCell S h2).elim (fun z => absurd z hc) id
      exact I.ok.inj x y c o1 o2
  · have hx' : (relS sc X.env.scope).names.lookup x = some .cell ∨ (relS sc X.env.scope).names.lookup x = some .free := hx
    have : sc.names.lookup x = some .cell ∨ sc.names.lookup x = some .free := by
      rcases hx' with h | h
      · rcases relS_lookup (sc := sc) h with q | ⟨q, _⟩
        · exact .inl q
        · exact .inr q
      · rcases relS_lookup (sc := sc) h with q | ⟨_, q⟩
        · exact .inr q
        · cases q
    refine Option.isSome_iff_exists.mp (PySem.W.cellsFrom_some _ _ _ ?_)
    rcases this with q | q
    · exact .inl q
    · exact .inr (clOf_some _ _ (.inl (PySem.mem_of_lookup q)))
  · have hx' : sc.names.lookup x = some .cell := of_decide_eq_true hx
    have q := cellsFrom_new (lo := (accS s).heap.objs.size) _ _ _ (Nat.le_succ _) (.inl hx') h
    exact q
  · rcases I.compCell S h with q | q
    · exact Nat.ne_of_gt (Nat.lt_of_lt_of_le (exlt b hb) (Nat.le_trans (Nat.le_succ _) q))
    · exact exne b hb x c q
  · exact Nat.le_trans I.ok.bsz (Nat.le_trans I.sz (by show s.heap.objs.size ≤ (accS s).heap.objs.size; rw [sz]; exact Nat.le_succ _))
  · have e0 := (I.ok.bs b o e).1
    rcases List.mem_cons.mp hb with z | hb
    · exact absurd (Nat.lt_of_lt_of_le (Heap.lt_size (I.bk b o e)) (by rw [z]; exact Nat.le_refl _)) (Nat.lt_irrefl _)
    · rcases (hf b hb).2.2.2.1 with z | z
      · exact I.ok.noex b o e z
      · exact absurd (Nat.lt_of_lt_of_le (Heap.lt_size e0) z) (Nat.lt_irrefl _)
  · intro hbs
    rcases List.mem_cons.mp (I.stkSub b hbs) with z | z
    · rcases List.mem_cons.mp hb with y | y
      · rw [y] at z
        exact absurd (Nat.lt_of_lt_of_le I.lt (by rw [← z]; exact Nat.le_refl _)) (Nat.lt_irrefl _)
      · exact (hf b y).2.1 z
    · rcases List.mem_cons.mp hb with y | y
      · exact I.nofs (Nat.le_refl _) (by rw [y] at z; exact z)
      · exact (hf b y).2.2.1 z
  · exact I.stack.of_keeps fun b o e _ => ⟨o, accS_keep s b o e, rfl⟩

/-- the block's slots, wherever it has come to: the cells taken over are as they were -/
theorem Inv.relift {pl : List (Addr × Obj)} {σ2 : St} {s2 : Shared} {H2 : Hp} (I : Inv X pins σ H s) (S : CompSc X.env.scope sc X.N N lift) (I2 : Inv (cxComp X sc N (cbOf s H fp)) pl σ2 H2 s2) (hf : ∀ b ∈ fp, FpOk X pins H b) :
    Inv (cxComp X sc N (cbOf s H fp)) pl (liftσ lift σ) H2 s2 := by
  obtain ⟨m2, hn2, _⟩ := I2.loc
  refine ⟨I2.ok, I2.os, I2.bare, I2.base, ⟨m2, hn2, fun i x v e1 e2 e3 => ?_⟩, I2.cell, I2.free, I2.freeC, I2.pin, I2.hok, by rw [liftσ_len, S.len]; rfl⟩
  obtain ⟨j, hj, hv⟩ := liftσ_at e2
  obtain ⟨u1, u2, u3, u4⟩ := S.up i j x hj e1
  obtain ⟨m, hn, hl⟩ := I.loc
  have hk := S.fre x u2
  obtain ⟨u, r, l⟩ := hl j x v u1 hv (.inr hk)
  refine ⟨u, r, .inr ⟨relS_free (out := X.env.scope) u4, ?_⟩⟩
  rcases l with ⟨k, _⟩ | ⟨_, c, hc, hcell⟩
  · have k' : X.env.scope.names.lookup x = some .local := k
    rcases hk with z | z <;> (rw [z] at k'; cases k')
  · refine ⟨c, ?_, ?_⟩
    · show (cellsFrom _ sc.names (clOf X.env.cells sc.names [])).lookup x = some c
      rw [cellsFrom_old _ _ _ u3]
      obtain ⟨c', hc'⟩ := Option.isSome_iff_exists.mp (clOf_some (cells := X.env.cells) sc.names [] (.inl u2))
      rw [hc']
      have := clOf_is _ _ (I.hasCell S) (fun _ z => by cases z) hc'
      rw [hc] at this
      exact congrArg some (Option.some.inj this).symm
    · obtain ⟨o, ho, hd⟩ := hcell
      have ne : c ∉ s.heap.objs.size :: fp := fun z => by
        rcases List.mem_cons.mp z with q | q
        · exact absurd (I.oldCell hc) (by rw [q]; exact Nat.lt_irrefl _)
        · exact (hf c q).2.2.2.2.1 x c hc rfl
      obtain ⟨sl, q⟩ := I2.base.any (accS_keep s c o ho) (I.freeC x c hc) ne
      exact ⟨_, q, hd⟩

theorem Inv.comp_in (I : Inv X pins σ H s) (S : CompSc X.env.scope sc X.N N lift) (hf : ∀ b ∈ fp, FpOk X pins H b) (ho : ∀ b ∈ fp, b < s.heap.objs.size) :
    Inv (cxComp X sc N (cbOf s H fp)) [(s.heap.objs.size, accObj [] 0)] (liftσ lift σ) H (inS s sc) := by
  have ok := I.compOk (N := N) (lift := lift) S hf ho
  have sz := accS_size s
  have keep : ∀ b o, s.heap.get? b = some o → (inS s sc).heap.get? b = some o := fun b o e => inS_keep s sc b o (accS_keep s b o e)
  have fresh : ∀ c, s.heap.objs.size ≤ c → H c = none := fun c hc => I.hok.fresh hc
  have I0 : Inv (cxComp X sc N (cbOf s H fp)) [(s.heap.objs.size, accObj [] 0)] (List.replicate N.length none) H (inS s sc) := by
    refine ⟨ok, rfl, I.bare, Un.kept (inS_keep s sc), ⟨fun _ => none, (Heap.Ns.new (accS s).heap (.type "dict")).keeps (pushCells_keeps _ _), fun i x v _ e2 _ => ?_⟩, fun x c h => ?_, fresh _ (by show s.heap.objs.size ≤ (accS s).heap.objs.size; rw [sz]; exact Nat.le_succ _), fun x c h => ?_, fun p hp => ?_, I.hok.kept keep, ?_⟩
    · rw [List.getElem?_replicate] at e2
      split at e2 <;> cases e2
    · refine pushed_cell sc.names _ (clOf X.env.cells sc.names []) (fun y d hd => ?_) x c (by rw [Heap.size_push]; exact h)
      obtain ⟨v, z⟩ := I.cell y d (clOf_is _ _ (I.hasCell S) (fun _ z => by cases z) hd)
      exact ⟨v, z.keeps fun b o q => Heap.get?_push_of_some _ (accS_keep s b o q)⟩
    · rcases I.compCell S h with q | q
      · exact fresh c (Nat.le_trans (by rw [sz]; exact Nat.le_trans (Nat.le_succ _) (Nat.le_succ _)) q)
      · exact I.freeC x c q
    · have e : p = (s.heap.objs.size, accObj [] 0) := by simpa [cxComp] using hp
      subst e
      refine ⟨inS_keep s sc _ _ (Heap.get?_push_size _ rfl), fresh _ (Nat.le_refl _), ?_, fun z => ?_, fun v z => by cases z⟩
      · exact Nat.ne_of_lt (by show s.heap.objs.size < (accS s).heap.objs.size; rw [sz]; exact Nat.lt_succ_self _)
      · exact ok.exfs _ List.mem_cons_self z
    · show (List.replicate N.length none).length = N.length
      rw [List.length_replicate]
  exact I.relift S I0 hf
end
end L2
namespace L2
open PySem PySem.Spec PyProof.Rows
section
variable {X : Cx} {pins : List (Addr × Obj)} {σ : St} {H H' : Hp} {s s' : Shared} {sc : Scope} {N : List Str} {lift : List (Option Nat)} {fp : List Addr}

/-- an object that nobody tracked is tracked from here on -/
theorem Inv.adopt {D : Addr} {o : HO} (I : Inv X pins σ H s) (f : FpOk X pins H D) (h1 : X.s₀.heap.objs.size ≤ D) (new : ObjOk X.prog X.w (upd H D o) s.heap D o) : Inv X pins σ (upd H D o) s := by
  obtain ⟨f0, f1, f2, f3, f4, f5⟩ := f
  have ne0 : ∀ b ob, X.s₀.heap.get? b = some ob → b ≠ D := fun b ob e => Nat.ne_of_lt (Nat.lt_of_lt_of_le (Heap.lt_size e) h1)
  refine ⟨I.ok, I.os, I.bare, ⟨I.base.keep, I.base.slot, fun b ob e n hx => ?_, I.base.there, fun b xs e => ?_, fun b ob u e => ?_, fun b lp qn e => ?_⟩, I.loc, I.cell, ?_, fun x c e => ?_, fun p hp => ?_, fun b u e => ?_, I.len⟩
  · rw [upd_ne (ne0 b ob e)]; exact I.base.free b ob e n hx
  · have q := I.base.tups b xs e
    rw [upd_ne (ne_of_none q f0)]; exact q
  · have q := I.base.frzs b ob u e
    rw [upd_ne (ne_of_none q f0)]; exact q
  · have q := I.base.tbls b lp qn e
    rw [upd_ne (ne_of_none q f0)]; exact q
  · rw [upd_ne (Ne.symm f1)]; exact I.free
  · rw [upd_ne (f4 x c e)]; exact I.freeC x c e
  · obtain ⟨a, b, c⟩ := I.pin p hp
    exact ⟨a, by rw [upd_ne (f5 p hp)]; exact b, c⟩
  · by_cases hb : b = D
    · subst hb; rw [upd_same] at e; cases e; exact new
    · rw [upd_ne hb] at e
      exact (I.hok b u e).stay (fun _ _ _ q => q) (fun c q => by rw [upd_ne (ne_of_none q f0)]; exact q) fun c xs q => by rw [upd_ne (ne_of_none q f0)]; exact q

/-- behind the block -/
theorem Inv.comp_out {acc : List V} {its : List Value} {n : Nat} {σ' : St} (I : Inv X pins σ H s) (hf : ∀ b ∈ fp, FpOk X pins H b) (ho : ∀ b ∈ fp, b < s.heap.objs.size)
    (I' : Inv (cxComp X sc N (cbOf s H fp)) [(s.heap.objs.size, accObj its n)] σ' H' s') (r : Vals acc its) (hz : acc.length ≤ sizeLine) : Inv X pins σ (upd H' s.heap.objs.size (.lst acc)) s' := by
  have un := I'.base
  have nex : ∀ b o, s.heap.get? b = some o → b ∉ fp → b ∉ s.heap.objs.size :: fp := fun b o e hb z => by
    rcases List.mem_cons.mp z with q | q
    · exact absurd (Heap.lt_size e) (by rw [q]; exact Nat.lt_irrefl _)
    · exact hb q
  have u : Un (frs X.stack) fp H H' s.heap s'.heap :=
    ⟨fun b o e n hb hx => un.keep b o (accS_keep s b o e) n hb (nex b o e hx), fun b o e n hb hx => un.slot b o (accS_keep s b o e) n hb (nex b o e hx), fun b o e n hx => un.free b o (accS_keep s b o e) n (nex b o e hx),
      fun b o e hx => un.there b o (accS_keep s b o e) (nex b o e hx), un.tups, un.frzs, un.tbls⟩
  have I1 : Inv X pins σ H' s' := I.call' (ch := fp) (I'.os.trans rfl) u I'.hok I'.bare fun b hb => ⟨(hf b hb).2.2.2.1, (hf b hb).2.1, (hf b hb).2.2.2.2.1, (hf b hb).2.2.2.2.2⟩
  obtain ⟨e, hn, _⟩ := I'.pin (s.heap.objs.size, accObj its n) (by simp)
  refine I1.adopt (I.fpOk (Nat.le_refl _) hn) I.sz ?_
  exact ⟨hz, its, n, r, e⟩
/-- the block's own dict may be let go -/
theorem Inv.comp_let {C : Addr} {h' : Heap} {σ1 : St} (I : Inv X pins σ H s) (hC : s.heap.objs.size ≤ C) (I1 : Inv X pins σ1 H' s') (hn : H' C = none) (hs : Heap.SameBut C s'.heap h') : Inv X pins σ1 H' { s' with heap := h' } := by
  obtain ⟨f0, f1, f2, f3, f4, f5⟩ := I.fpOk hC hn
  exact I1.turned (t' := s'.toks) (fun b o hb e => (hs.2 b hb).trans e) f0 f1 f3 f4 f5
end

section
variable {prog : Program} {w : World} {A : Around} {R : Result → Shared → Prop} {s : Shared}
/-- the turns of a comprehension: no error leaves them -/
theorem comp_turns {elt target iter : Expr} {ifs : List Expr} {scope : Scope} {pos : Pos} {it acc : Value} {env : Env} (I : Nat → Shared → Prop)
    (turn : ∀ n s, I n s → wpAny (model prog w) A (pyNext it) (fun r s₁ => match r with
      | none => R (.ok .next) s₁
      | some v => wpAny (model prog w) A (letOwnedTupleGo target it v) (fun _ s₁' => wpAny (model prog w) A (assign target env v) (fun _ s₂ =>
          wpAny (model prog w) A (forIn ifs true fun c r => if r = true then do let ok ← isTrue c env (eval c env); pure (ForInStep.yield ok) else pure (ForInStep.yield r)) (fun ok s₃ =>
            if ok = true then wpAny (model prog w) A (eval elt env) (fun x s₄ =>
              wpAny (model prog w) A (call (.builtin "list.append") [acc, x]) (fun _ s₅ => ∃ m, m < n ∧ I m s₅) (fun _ _ => False) s₄) (fun _ _ => False) s₃
            else ∃ m, m < n ∧ I m s₃) (fun _ _ => False) s₂) (fun _ _ => False) s₁') (fun _ _ => False) s₁) (fun _ _ => False) s)
    (n : Nat) (h : I n s) : codeAny (model prog w) A (.compLoop (.ListComp elt [⟨target, iter, ifs, 0⟩] scope pos) 0 it acc env) R s := by
  refine codeAny_loop rfl I (fun n s hI => ?_) n h
  show wpAny _ A ((compTurn (.ListComp elt [⟨target, iter, ifs, 0⟩] scope pos) 0 it acc env).onRaise (fun x => do noteFrame x env; theTreesLotGoes x)) _ _ s
  refine wpAny_noted ?_
  rw [compTurn_list]
  refine wpAny_bind (wpAny_standAt (wpAny_bind (wpAny_mono (turn n s hI) (fun r s₁ h₁ => ?_) fun _ _ h' => h'.elim)))
  cases r with
  | none => exact wpAny_pure h₁
  | some v =>
    refine wpAny_bind (wpAny_mono h₁ (fun _ s₁' h₁' => ?_) fun _ _ h' => h'.elim)
    refine wpAny_bind (wpAny_mono h₁' (fun _ s₂ h₂ => wpAny_bind (wpAny_mono h₂ (fun ok s₃ h₃ => ?_) fun _ _ h' => h'.elim)) fun _ _ h' => h'.elim)
    cases ok with
    | false => exact wpAny_pure ⟨rfl, h₃⟩
    | true =>
      exact wpAny_bind (wpAny_bind (wpAny_mono h₃ (fun x s₄ h₄ => wpAny_bind (wpAny_mono h₄ (fun _ s₅ h₅ => wpAny_pure (wpAny_pure ⟨rfl, h₅⟩)) fun _ _ h' => h'.elim)) fun _ _ h' => h'.elim))
end

/-- the tests of a clause -/
def PIf (X : Cx) (ifs : List Expr) (t : TT) : Prop :=
  ∀ (pins : List (Addr × Obj)) (s : Shared) (σ : St) (H : Hp) (Q : Bool → Hp → Prop), Inv X pins σ H s → t σ H Q →
    wpAny (model X.prog X.w) X.A (forIn ifs true fun c r => if r = true then do let ok ← isTrue c X.env (eval c X.env); pure (ForInStep.yield ok) else pure (ForInStep.yield r)) (TP X pins σ Q) X.xe s
def tIfs0 : TT := fun _ H Q => Q true H
theorem pifs_nil {X : Cx} : PIf X [] tIfs0 := fun _ _ _ H _ I h => wpAny_tests_nil ⟨H, I, h⟩
theorem pifs_one {X : Cx} {c : Expr} {t : TT} (h : PT X c t) : PIf X [c] t := fun pins s σ H Q I hq => wpAny_tests_one (h pins s σ H Q I hq)

/-- what a comprehension asks: W, the invariant by the turn, a measure, what has been gathered, and the heap -/
def CompW (J : It) (lσ : St) (g : TG) (tc : TT) (te : TE) (H1 : Hp) (R : List V → Hp → Prop) : Prop :=
  ∃ W : Nat → Nat → List V → Hp → Prop, (∃ m, W 0 m [] H1) ∧ ∀ i m acc H, W i m acc H →
    (J.stop i H ∧ R acc H) ∨ (J.go i H ∧ acc.length < sizeLine ∧ ∃ N : List V → Hp → Prop, (∀ acc' H', N acc' H' → ∃ m', m' < m ∧ W (i + 1) m' acc' H') ∧ ∀ x H', J.yld i H x H' → g x lσ H' fun σ2 H2 => tc σ2 H2 fun b H3 =>
      if b = true then te σ2 H3 fun v H4 => N (acc ++ [v]) H4 else N acc H3)
/-- .. the list gathered is new -/
def CompV (J : It) (lσ : St) (g : TG) (tc : TT) (te : TE) (H1 : Hp) (Q : VK) : Prop := CompW J lσ g tc te H1 fun acc H2 => ∀ D, H2 D = none → Q (.ref D) (upd H2 D (.lst acc))
def tComp (lift : List (Option Nat)) (wi : TI) (g : TG) (tc : TT) (te : TE) : TE := fun σ H Q => wi σ H fun J H1 => CompV J (liftσ lift σ) g tc te H1 Q
def tCompS (i : Nat) (lift : List (Option Nat)) (wi : TI) (g : TG) (tc : TT) (te : TE) : TS := fun E σ H => wi σ H fun J H1 => CompV J (liftσ lift σ) g tc te H1 fun v H2 => E.nx (σ.set i (some v)) H2

section
variable {X : Cx} {sc : Scope} {N : List Str} {lift : List (Option Nat)} {elt tg iter : Expr} {ifs : List Expr} {pos : Pos} {wi : TI} {g : TG} {tc : TT} {te : TE}
/-- the block, from its iterator on -/
theorem comp_block {pins : List (Addr × Obj)} {σ : St} {s : Shared} {H : Hp} {R : List V → Hp → Prop} {RR : Result → Shared → Prop} {it : Addr} {fp : List Addr} {tn : Nat → Heap → Prop} {J : It}
    (S : CompSc X.env.scope sc X.N N lift) (hc : X.calm = true) (hg : ∀ b, PG (cxComp X sc N b) tg g) (ht : ∀ b, PIf (cxComp X sc N b) ifs tc) (he : ∀ b, PE (cxComp X sc N b) elt te)
    (I : Inv X pins σ H s) (T : Turn X.prog X.w X.K tg J fp it tn) (st : tn 0 s.heap) (hf : ∀ b ∈ fp, FpOk X pins H b) (hq : CompW J (liftσ lift σ) g tc te H R)
    (fin : ∀ (acc : List V) (H' : Hp) (s' : Shared), Inv X pins σ (upd H' s.heap.objs.size (.lst acc)) s' → H' s.heap.objs.size = none → H' (accS s).heap.objs.size = none → (∃ m, s'.heap.Ns (accS s).heap.objs.size m) → R acc H' → RR (.ok .next) s') :
    codeAny (model X.prog X.w) X.A (.compStart (.ListComp elt [⟨tg, iter, ifs, 0⟩] sc pos) 0 (.ref it) (.ref s.heap.objs.size) (compE X.env sc (accS s).heap.objs.size)) RR (inS s sc) := by
  obtain ⟨W, ⟨m0, w0⟩, turn⟩ := hq
  have ho : ∀ b ∈ fp, b < s.heap.objs.size := fun b hb => let ⟨o, e, _⟩ := T.obj 0 _ st b hb; Heap.lt_size e
  have Dfp : s.heap.objs.size ∉ fp := fun z => Nat.lt_irrefl _ (ho _ z)
  have I0 := I.comp_in S hf ho
  have st0 : tn 0 (inS s sc).heap := T.keep _ _ _ st fun b _ o e => inS_keep s sc b o (accS_keep s b o e)
  -- the iterator's objects, in the block
  have stat : ∀ {pl : List (Addr × Obj)} {H' : Hp}, (∀ p ∈ pl, p.1 = s.heap.objs.size) → (∀ b ∈ fp, H' b = none) → ∀ b ∈ fp, FpOk (cxComp X sc N (cbOf s H fp)) pl H' b := fun {pl H'} hpl hn b hb => by
    refine ⟨hn b hb, (I0.ok.exf b (List.mem_cons_of_mem _ hb)).1, I0.ok.exfs b (List.mem_cons_of_mem _ hb), .inl (List.mem_cons_of_mem _ hb), (I0.ok.exf b (List.mem_cons_of_mem _ hb)).2, fun p hp => ?_⟩
    have hp' : p ∈ pl := by simpa [cxComp] using hp
    rw [hpl p hp']
    exact fun z => Dfp (z ▸ hb)
  have one : ∀ (o : Obj), ∀ p ∈ [(s.heap.objs.size, o)], p.1 = s.heap.objs.size := fun o p hp => by rw [List.mem_singleton.mp hp]
  have loop : codeAny (model X.prog X.w) X.A (.compLoop (.ListComp elt [⟨tg, iter, ifs, 0⟩] sc pos) 0 (.ref it) (.ref s.heap.objs.size) (compE X.env sc (accS s).heap.objs.size)) RR (inS s sc) := by
    refine comp_turns (fun n s' => ∃ i acc its k H', Inv (cxComp X sc N (cbOf s H fp)) [(s.heap.objs.size, accObj its k)] (liftσ lift σ) H' s' ∧ Vals acc its ∧ acc.length ≤ sizeLine ∧ tn i s'.heap ∧ (∀ b ∈ fp, H' b = none) ∧ W i n acc H') ?_ m0
      ⟨0, [], [], 0, H, I0, .nil, Nat.zero_le _, st0, fun b hb => (hf b hb).1, w0⟩
    rintro n s3 ⟨i, acc, its, k, H3, I3, rv, hz, st3, fr3, w3⟩
    rcases turn i n acc H3 w3 with ⟨stop, qn⟩ | ⟨go, hlt, M, hM, step⟩
    · refine thn (T.done (cxComp X sc N (cbOf s H fp)) rfl rfl rfl hc i _ s3 _ H3 _ I3 (stat (one _) fr3) st3 stop) fun r s4 ⟨hr, I4⟩ => ?_
      subst hr
      obtain ⟨m4, hn4, _⟩ := I4.loc
      exact fin acc H3 s4 (I.comp_out hf ho I4 rv hz) (I4.pin (s.heap.objs.size, accObj its k) (by simp)).2.1 I4.free ⟨m4, hn4⟩ qn
    · refine thn (T.item (cxComp X sc N (cbOf s H fp)) rfl rfl rfl hc i _ s3 _ H3 _ I3 (stat (one _) fr3) st3 go) fun r s4 ⟨u, hr, h4⟩ => ?_
      subst hr
      refine thn h4 fun _ s5 ⟨x, H5, I5, r5, y5, st5, fr5⟩ => ?_
      have I5' := I5.pinned (stat (one _) fr5) (T.obj _ _ st5)
      refine thn (hg _ _ s5 _ H5 x u _ I5' r5 (step x H5 y5)) fun _ s6 ⟨σ6, H6, I6, q6⟩ => ?_
      refine thn (ht _ _ s6 σ6 H6 _ I6 q6) fun b s7 ⟨H7, I7, q7⟩ => ?_
      -- the records through the turn
      have next : ∀ {σ8 : St} {H8 : Hp} {s8 : Shared} {its' : List Value} {k' : Nat}, Inv (cxComp X sc N (cbOf s H fp)) ([(s.heap.objs.size, accObj its' k')] ++ pinsAt fp s5.heap) σ8 H8 s8 →
          Inv (cxComp X sc N (cbOf s H fp)) [(s.heap.objs.size, accObj its' k')] (liftσ lift σ) H8 s8 ∧ tn (i + 1) s8.heap ∧ ∀ b ∈ fp, H8 b = none := fun {σ8 H8 s8 its' k'} I8 => by
        refine ⟨I.relift S I8.unpinned hf, T.keep _ _ _ st5 fun b hb o e => (I8.pin (b, o) (List.mem_append_right _ (List.mem_append_right _ (mem_pinsAt hb e)))).1, fun b hb => ?_⟩
        obtain ⟨o, e, d⟩ := T.obj _ _ st5 b hb
        exact (I8.pin (b, o) (List.mem_append_right _ (List.mem_append_right _ (mem_pinsAt hb e)))).2.1
      cases b with
      | false =>
        rw [if_neg Bool.false_ne_true] at q7 ⊢
        obtain ⟨m', hm, w7⟩ := hM _ _ q7
        obtain ⟨a1, a2, a3⟩ := next I7
        exact ⟨m', hm, i + 1, acc, its, k, H7, a1, rv, hz, a2, a3, w7⟩
      | true =>
        rw [if_pos rfl] at q7 ⊢
        refine thn (he _ _ s7 σ6 H7 _ I7 q7) fun y s8 ⟨v, H8, I8, r8, q8⟩ => ?_
        obtain ⟨m', hm, w8⟩ := hM _ _ q8
        obtain ⟨eD, nD, _⟩ := I8.pin (s.heap.objs.size, accObj its k) (by simp)
        have hl := rv.length
        refine call_meets F.slot_list_append ⟨_, eD, rfl⟩ F.entry_list_append (F.args_list_append_2 _ _) (PySem.list_append s.heap.objs.size its.toArray k y (by rw [List.size_toArray]; omega)) ⟨eD, ?_⟩
        -- the list has grown
        have e9 := PySem.IsL.update eD (fun a : Array Value => a.push y)
        generalize (if ((its.toArray.push y).size == its.toArray.size) = true then k else k + 1) = k9 at e9
        have I9 : Inv (cxComp X sc N (cbOf s H fp)) (pinsAt fp s5.heap) σ6 H8 { s8 with heap := s8.heap.update s.heap.objs.size (Obj.mapSeq fun a => a.push y), toks := s8.toks } := by
          have J : Inv (cxComp X sc N (cbOf s H fp)) (pinsAt fp s5.heap) σ6 H8 s8 := I8.pins_of fun p hp => I8.pin p (List.mem_append_right _ (List.mem_append_right _ hp))
          refine J.turned (it := s.heap.objs.size) (fun b o hb e => (Heap.get?_update_other _ _ (Ne.symm hb)).trans e) nD (J.ok.exf _ List.mem_cons_self).1 (.inl List.mem_cons_self) (J.ok.exf _ List.mem_cons_self).2 fun p hp z => ?_
          have hp' : p ∈ pinsAt fp s5.heap := by simpa [cxComp] using hp
          exact Dfp (z ▸ (of_pinsAt hp').1)
        have I10 : Inv (cxComp X sc N (cbOf s H fp)) ([(s.heap.objs.size, accObj (its ++ [y]) k9)] ++ pinsAt fp s5.heap) σ6 H8 { s8 with heap := s8.heap.update s.heap.objs.size (Obj.mapSeq fun a => a.push y), toks := s8.toks } := by
          refine I9.pins_of fun p hp => ?_
          rcases List.mem_append.mp hp with z | z
          · rw [List.mem_singleton.mp z]
            refine ⟨?_, nD, (I9.ok.exf _ List.mem_cons_self).1, I9.ok.exfs _ List.mem_cons_self, fun v z => by cases z⟩
            show (s8.heap.update s.heap.objs.size (Obj.mapSeq fun a => a.push y)).get? s.heap.objs.size = some (accObj (its ++ [y]) k9)
            rw [show accObj (its ++ [y]) k9 = { cls := .type "list", data := .seq (its.toArray.push y) k9 } by simp [accObj]]
            exact e9
          · exact I9.pin p (List.mem_append_right _ z)
        obtain ⟨a1, a2, a3⟩ := next I10
        exact ⟨m', hm, i + 1, acc ++ [v], its ++ [y], k9, H8, a1, rv.append (.cons r8 .nil), by rw [List.length_append, List.length_singleton]; omega, a2, a3, w8⟩
  exact codeAny_compStart_list loop (T.self _ 0 _ _ _ st0 loop)

theorem pe_compB (S : CompSc X.env.scope sc X.N N lift) (hi : PI X tg iter wi) (hg : ∀ b, PG (cxComp X sc N b) tg g) (ht : ∀ b, PIf (cxComp X sc N b) ifs tc) (he : ∀ b, PE (cxComp X sc N b) elt te)
    (hc : X.calm = true := by rfl) (hs : ∀ x, foldedSetIterable iter X.env x = pure x := by intro _; rfl) : PE X (.ListComp elt [⟨tg, iter, ifs, 0⟩] sc pos) (tComp lift wi g tc te) := by
  intro pins s σ H Q I h
  rw [eval_ListComp]
  refine wpAny_comprehension_free (use := none) rfl hs (closureFor_cells (I.hasCell S)) S.kind S.loc ?_
  refine thn (hi pins s σ H _ I h) fun v s1 h1 => thn h1 fun itv s2 h2 => ?_
  obtain ⟨it, fp, tn, J, H2, e, I2, T, st2, f2, hq⟩ := h2
  subst e
  refine wpAny_newObj_type (wpAny_compEnv ?_)
  refine comp_block S hc hg ht he I2 T st2 f2 hq fun acc H' s' I' nD nC hn q => ?_
  obtain ⟨m, hn⟩ := hn
  refine ⟨m, hn, fun h' hs' => ⟨.ref s2.heap.objs.size, _, I2.comp_let (C := (accS s2).heap.objs.size) (by rw [accS_size]; exact Nat.le_succ _) I' ?_ hs', rfl, q _ nD⟩⟩
  rw [upd_ne (by rw [accS_size]; exact Nat.ne_of_gt (Nat.lt_succ_self _))]
  exact nC

/-- x = [.. for ..], x a local name of the def -/
theorem ps_compB {i : Nat} {x : Str} {pos' spos : Pos} (hN : X.N.Nodup) (hi' : X.N[i]? = some x) (hx : X.env.scope.names.lookup x = some .local) (S : CompSc X.env.scope sc X.N N lift) (hi : PI X tg iter wi) (hg : ∀ b, PG (cxComp X sc N b) tg g)
    (ht : ∀ b, PIf (cxComp X sc N b) ifs tc) (he : ∀ b, PE (cxComp X sc N b) elt te) (hc : X.calm = true := by rfl) (hs : ∀ x, foldedSetIterable iter X.env x = pure x := by intro _; rfl)
    (hsw : swapsWith (.ListComp elt [⟨tg, iter, ifs, 0⟩] sc pos) (some (.Name x pos')) spos.line X.env = pure true := by rfl) :
    PS X (.Assign [.Name x pos'] (.ListComp elt [⟨tg, iter, ifs, 0⟩] sc pos) spos) (tCompS i lift wi g tc te) := by
  intro pins s σ H D I h
  rw [exec_Assign_Name_used _ _ _ _ hsw]
  refine wpAny_bind (wpAny_standAt (wpAny_bind ?_))
  show wpAny _ X.A (do let _ ← comprehension (.ListComp elt [⟨tg, iter, ifs, 0⟩] sc pos) sc X.env _ (newList []) false (eval iter X.env) (some (assign (.Name x pos') X.env))) _ _ s
  refine wpAny_bind (wpAny_mono (wpAny_comprehension_free (use := some (assign (.Name x pos') X.env)) (Q := fun _ s' => SP X pins D .next s') rfl hs (closureFor_cells (I.hasCell S)) S.kind S.loc ?_) (fun _ s' hq => wpAny_pure (wpAny_pure hq)) fun _ _ e => e)
  refine thn (hi pins s σ H _ I h) fun v s1 h1 => thn h1 fun itv s2 h2 => ?_
  obtain ⟨it, fp, tn, J, H2, e, I2, T, st2, f2, hq⟩ := h2
  subst e
  refine wpAny_newObj_type (wpAny_compEnv ?_)
  refine comp_block S hc hg ht he I2 T st2 f2 hq fun acc H' s' I' nD nC hn q => ?_
  obtain ⟨m, hn⟩ := hn
  show wpAny _ X.A (assign (.Name x pos') X.env (.ref s2.heap.objs.size)) _ _ s'
  refine wpAny_assign_Name (store_ok2 I' hN hi' (.inl hx) (v := .ref s2.heap.objs.size) rfl (fun s4 I4 ⟨a, hs4, ha⟩ => ?_) (.inr hx))
  have hCa : (accS s2).heap.objs.size ≠ a := by
    rcases ha with z | z
    · rw [z]; exact Nat.ne_of_gt (Nat.lt_of_lt_of_le I2.lt (by rw [accS_size]; exact Nat.le_succ _))
    · exact Nat.ne_of_gt (Nat.lt_of_lt_of_le (I2.oldCell z) (by rw [accS_size]; exact Nat.le_succ _))
  refine ⟨m, hn.sameBut hs4 hCa, fun h' hs' => ⟨_, _, ?_, q _ nD⟩⟩
  refine I2.comp_let (C := (accS s2).heap.objs.size) (by rw [accS_size]; exact Nat.le_succ _) I4 ?_ hs'
  rw [upd_ne (by rw [accS_size]; exact Nat.ne_of_gt (Nat.lt_succ_self _))]
  exact nC
end
/-- the block's readings may be told with its context in hand, as long as they come to the same -/
def cb0 (X : Cx) : CB := ⟨X.s₀, X.H₀, []⟩
section
variable {X : Cx} {sc : Scope} {N : List Str} {lift : List (Option Nat)} {elt tg iter : Expr} {ifs : List Expr} {pos : Pos} {wi : TI} {g : CB → TG} {tc : CB → TT} {te : CB → TE}
theorem pe_comp (S : CompSc X.env.scope sc X.N N lift) (hi : PI X tg iter wi) (hg : ∀ b, PG (cxComp X sc N b) tg (g b)) (ht : ∀ b, PIf (cxComp X sc N b) ifs (tc b)) (he : ∀ b, PE (cxComp X sc N b) elt (te b))
    (eg : ∀ b, g b = g (cb0 X) := by intro _; rfl) (et : ∀ b, tc b = tc (cb0 X) := by intro _; rfl) (ee : ∀ b, te b = te (cb0 X) := by intro _; rfl)
    (hc : X.calm = true := by rfl) (hs : ∀ x, foldedSetIterable iter X.env x = pure x := by intro _; rfl) : PE X (.ListComp elt [⟨tg, iter, ifs, 0⟩] sc pos) (tComp lift wi (g (cb0 X)) (tc (cb0 X)) (te (cb0 X))) :=
  pe_compB S hi (fun b => eg b ▸ hg b) (fun b => et b ▸ ht b) (fun b => ee b ▸ he b) hc hs
theorem ps_comp {i : Nat} {x : Str} {pos' spos : Pos} (hN : X.N.Nodup) (hi' : X.N[i]? = some x) (hx : X.env.scope.names.lookup x = some .local) (S : CompSc X.env.scope sc X.N N lift) (hi : PI X tg iter wi) (hg : ∀ b, PG (cxComp X sc N b) tg (g b))
    (ht : ∀ b, PIf (cxComp X sc N b) ifs (tc b)) (he : ∀ b, PE (cxComp X sc N b) elt (te b)) (eg : ∀ b, g b = g (cb0 X) := by intro _; rfl) (et : ∀ b, tc b = tc (cb0 X) := by intro _; rfl) (ee : ∀ b, te b = te (cb0 X) := by intro _; rfl)
    (hc : X.calm = true := by rfl) (hs : ∀ x, foldedSetIterable iter X.env x = pure x := by intro _; rfl)
    (hsw : swapsWith (.ListComp elt [⟨tg, iter, ifs, 0⟩] sc pos) (some (.Name x pos')) spos.line X.env = pure true := by rfl) :
    PS X (.Assign [.Name x pos'] (.ListComp elt [⟨tg, iter, ifs, 0⟩] sc pos) spos) (tCompS i lift wi (g (cb0 X)) (tc (cb0 X)) (te (cb0 X))) :=
  ps_compB hN hi' hx S hi (fun b => eg b ▸ hg b) (fun b => et b ▸ ht b) (fun b => ee b ▸ he b) hc hs hsw
end
end L2
namespace L2
open PySem PySem.Spec PyProof.Rows
section
variable {X : Cx} {pins : List (Addr × Obj)} {σ : St} {H : Hp} {s : Shared} {h' : Heap} {t' : Nat} {ch : List Addr}
/-- some records of ours have turned -/
theorem Inv.turnedN (I : Inv X pins σ H s) (hch : ∀ b ∈ ch, FpOk X pins H b) (k : ∀ b o, b ∉ ch → s.heap.get? b = some o → h'.get? b = some o) : Inv X pins σ H { s with heap := h', toks := t' } := by
  have nit : ∀ b u, H b = some u → b ∉ ch := fun b u e z => by rw [(hch b z).1] at e; cases e
  refine I.step (g' := s.gens) (d' := s.drawn) (ch := ch) (fun b hb => ⟨(hch b hb).2.2.2.1, (hch b hb).2.1, (hch b hb).2.2.2.2.1, (hch b hb).2.2.2.2.2⟩) (fun b o _ _ hc e _ => k b o hc e) (fun b o _ _ hc e _ => ⟨o.slots, k b o hc e⟩) (fun _ _ _ _ n => n)
    (fun b o hc e => ⟨o, k b o hc e⟩) (fun _ _ e => e) (fun _ _ _ e => e) (fun _ _ _ e => e) (fun m hm => ?_) (fun b u e => ?_) I.bare
  · obtain ⟨o, es, ep, ho, r⟩ := hm
    exact ⟨o, es, ep, k _ o (fun z => (hch _ z).2.1 rfl) ho, r⟩
  · refine (I.hok b u e).stay (fun c v hc q => k c v ?_ q) (fun _ q => q) fun _ _ q => q
    rcases hc with z | z
    · rw [z]; exact nit b u e
    · exact nit c _ z
/-- .. and a new object has been laid -/
theorem Inv.turnLay {T : Addr} {o : HO} (I : Inv X pins σ H s) (hch : ∀ b ∈ ch, FpOk X pins H b) (k : ∀ b o, b ∉ ch → s.heap.get? b = some o → h'.get? b = some o) (hT : s.heap.objs.size ≤ T)
    (new : ObjOk X.prog X.w (upd H T o) h' T o) : Inv X pins σ (upd H T o) { s with heap := h', toks := t' } := by
  have I1 : Inv X pins σ H { s with heap := h', toks := t' } := I.turnedN hch k
  exact I1.adopt (I.fpOk hT (I.hok.fresh hT)) (Nat.le_trans I.sz hT) new
end

/-- (0, x), (1, y), .. of the list at a -/
def Ite (K : PySem.W.Frag) (a : Addr) : It :=
  ⟨fun i H => ∃ xs x, SqL K H a xs ∧ xs[i]? = some x, fun i H y H' => ∃ T x, y = .ref T ∧ H T = none ∧ H' = upd H T (.tup [.int i, x]) ∧ ∀ xs, SqL K H a xs → xs[i]? = some x, fun i H => ∃ xs, SqL K H a xs ∧ xs.length ≤ i⟩
theorem two_le : 2 ≤ sizeLine := by decide
theorem turn_enum {P : Program} {w : World} {K : PySem.W.Frag} {elts : List Expr} {kk : Nat} {pos : Pos} (a e it : Addr) (hne : e ≠ it) :
    Turn P w K (.Tuple elts kk pos) (Ite K a) [e, it] e (fun i h => (∃ old, IsEnum h e it i old) ∧ h.IsListIter it a i) where
  mem := by simp
  obj := fun i h st b hb => by
    obtain ⟨⟨old, st1⟩, o, e2, c, d⟩ := st
    rcases List.mem_cons.mp hb with z | z
    · rw [z]; exact ⟨_, st1, fun v q => by cases q⟩
    · rw [List.mem_singleton.mp z]
      exact ⟨o, e2, fun v q => by rw [d] at q; cases q⟩
  keep := fun i h h' st k => ⟨let ⟨old, q⟩ := st.1; ⟨old, k e (by simp) _ q⟩, st.2.at fun o q => k it (by simp) o q⟩
  item := by
    intro X hP hw hK hc i pins s σ H E I hf st hg
    subst hP hw hK
    obtain ⟨xs, x, hq, hx⟩ := hg
    obtain ⟨its, rv, p, hz⟩ := I.list hq
    obtain ⟨u, hu, ru⟩ := rv.get hx
    obtain ⟨⟨old, se⟩, si⟩ := st
    refine wpAny_pyNext_enum_item se si p.isList (x := u) (by simpa using hu) hne fun h1 a1 a2 a3 a4 a5 => ?_
    have ne : ∀ b ∈ [e, it], b ≠ s.heap.objs.size := fun b hb => by
      rcases List.mem_cons.mp hb with z | z
      · rw [z]; exact Nat.ne_of_lt (Heap.lt_size se)
      · obtain ⟨o, q, _⟩ := si
        rw [List.mem_singleton.mp z]; exact Nat.ne_of_lt (Heap.lt_size q)
    have I1 : Inv X pins σ (upd H s.heap.objs.size (.tup [.int i, x])) { s with heap := h1, toks := s.toks + 1 } :=
      I.turnLay hf (fun b o hb q => a5 b o (fun z => hb (by simp [z])) (fun z => hb (by simp [z])) q) (Nat.le_refl _) ⟨two_le, [.int i s.toks, u], .cons ⟨_, rfl⟩ (.cons ru .nil), ⟨_, a3, rfl, _, rfl⟩⟩
    have f1 : ∀ b ∈ [e, it], FpOk X pins (upd H s.heap.objs.size (.tup [.int i, x])) b := fun b hb => ⟨by rw [upd_ne (ne b hb)]; exact (hf b hb).1, (hf b hb).2⟩
    refine ⟨_, rfl, wpAny_letOwnedTupleGo_enum a1 fun h2 b1 b2 => ?_⟩
    have I2 : Inv X pins σ (upd H s.heap.objs.size (.tup [.int i, x])) { s with heap := h2, toks := s.toks + 1 } :=
      I1.turnedN (s := { s with heap := h1, toks := s.toks + 1 }) (t' := s.toks + 1) (ch := [e]) (fun b hb => f1 b (by rw [List.mem_singleton.mp hb]; simp)) fun b o hb q => (b2.2 b (fun z => hb (by simp [z]))).trans q
    exact ⟨.ref s.heap.objs.size, _, I2, rfl, ⟨_, x, rfl, I.hok.fresh (Nat.le_refl _), rfl, fun ys hy => by rw [I.list_inj hy hq]; exact hx⟩, ⟨⟨_, b1⟩, a2.at fun o q => (b2.2 it (Ne.symm hne)).trans q⟩, fun b hb => (f1 b hb).1⟩
  done := by
    intro X hP hw hK hc i pins s σ H E I hf st hg
    subst hP hw hK
    obtain ⟨xs, hq, hx⟩ := hg
    obtain ⟨its, rv, p, hz⟩ := I.list hq
    obtain ⟨⟨old, se⟩, si⟩ := st
    have hl := rv.length
    exact wpAny_pyNext_enum_end (I.ok.hd hc) se si p.isList (by simp; omega) fun h1 eb => ⟨rfl, I.turnedN (t' := s.toks) (ch := [it]) (fun b hb => hf b (by rw [List.mem_singleton.mp hb]; simp)) fun b o hb q => eb b o (fun z => hb (by simp [z])) q⟩
  self := fun _ _ _ _ _ st h => let ⟨_, q⟩ := st.1; wpAny_pyIter_enum q h
def iEnum (K : PySem.W.Frag) (ta : TA) : TI := fun σ H R => ta σ H fun vs H1 => ∃ a, vs = [.ref a] ∧ (∃ xs, SqL K H1 a xs) ∧ R (Ite K a) H1
theorem pi_enum {X : Cx} {elts : List Expr} {kk : Nat} {tpos : Pos} {a : Expr} {ta : TA} {p pos : Pos} (hg : Gl X "enumerate") (hm : X.mg "enumerate" = none) (ha : PA X [a] ta) (hs : starEach [a] X.env = [(false, eval a X.env)] := by rfl) :
    PI X (.Tuple elts kk tpos) (.Call (.Name "enumerate" p) [a] [] pos) (iEnum X.K ta) := by
  intro pins s σ H R I h
  refine Call_ (ld_blt I hg hm PyProof.Rows.boot_enumerate (PyProof.Rows.callWith_type1 (thn (ha pos pins s σ H _ I h) fun us s1 ⟨vs, H1, I1, r1, q1⟩ => ?_) hs rfl))
  obtain ⟨l, e, ⟨xs, hq⟩, q⟩ := q1
  subst e
  cases r1 with
  | cons r rr =>
    cases rr
    obtain rfl : _ = Value.ref l := r
    obtain ⟨its, rv, pl, hz⟩ := I1.list hq
    refine call_enumerate_list pl.isList fun h1 b1 b2 b3 b4 => ?_
    refine wpAny_pyIter_enum b1 ?_
    refine ⟨s1.heap.objs.size + 1, [s1.heap.objs.size + 1, s1.heap.objs.size], _, _, H1, rfl, I1.kept (t' := s1.toks) b4, turn_enum l _ _ (Nat.ne_of_gt (Nat.lt_succ_self _)), ⟨⟨_, b1⟩, b2⟩, fun b hb => ?_, q⟩
    have hb' : s1.heap.objs.size ≤ b := by
      rcases List.mem_cons.mp hb with z | z
      · rw [z]; exact Nat.le_succ _
      · rw [List.mem_singleton.mp z]; exact Nat.le_refl _
    exact I1.fpOk hb' (I1.hok.fresh hb')

/-- the pairs of the lists at a and b -/
def Itz (K : PySem.W.Frag) (a b : Addr) : It :=
  ⟨fun i H => ∃ xs ys x y, SqL K H a xs ∧ SqL K H b ys ∧ xs[i]? = some x ∧ ys[i]? = some y,
    fun i H z H' => ∃ T x y, z = .ref T ∧ H T = none ∧ H' = upd H T (.tup [x, y]) ∧ ∀ xs ys, SqL K H a xs → SqL K H b ys → xs[i]? = some x ∧ ys[i]? = some y,
    fun i H => ∃ xs ys, SqL K H a xs ∧ SqL K H b ys ∧ (xs.length ≤ i ∨ ys.length ≤ i)⟩
theorem zip_obj {a b z TI TO i1 i2 : Addr} {i : Nat} {h : Heap} (st : IsZip h z TI TO .none ∧ IsPair h TI (.ref i1) (.ref i2) ∧ (∃ x y, IsPair h TO x y) ∧ h.IsListIter i1 a i ∧ h.IsListIter i2 b i) :
    ∀ c ∈ [z, TI, TO, i1, i2], ∃ o, h.get? c = some o ∧ ∀ v, o.data ≠ .cell v := fun c hc => by
  obtain ⟨s1, s2, ⟨x, y, s3⟩, ⟨o4, e4, _, d4⟩, o5, e5, _, d5⟩ := st
  simp only [List.mem_cons, List.mem_nil_iff, or_false] at hc
  rcases hc with q | q | q | q | q <;> subst q
  · exact ⟨_, s1, fun v q => by cases q⟩
  · exact ⟨_, s2, fun v q => by cases q⟩
  · exact ⟨_, s3, fun v q => by cases q⟩
  · exact ⟨o4, e4, fun v q => by rw [d4] at q; cases q⟩
  · exact ⟨o5, e5, fun v q => by rw [d5] at q; cases q⟩
theorem turn_zip {P : Program} {w : World} {K : PySem.W.Frag} {elts : List Expr} {kk : Nat} {pos : Pos} (a b z TI TO i1 i2 : Addr) (D : ZipApart z TI TO i1 i2 a b) :
    Turn P w K (.Tuple elts kk pos) (Itz K a b) [z, TI, TO, i1, i2] z (fun i h => IsZip h z TI TO .none ∧ IsPair h TI (.ref i1) (.ref i2) ∧ (∃ x y, IsPair h TO x y) ∧ h.IsListIter i1 a i ∧ h.IsListIter i2 b i) where
  mem := by simp
  obj := fun i h st => zip_obj st
  keep := fun i h h' st k => by
    obtain ⟨s1, s2, ⟨x, y, s3⟩, s4, s5⟩ := st
    exact ⟨k z (by simp) _ s1, k TI (by simp) _ s2, ⟨x, y, k TO (by simp) _ s3⟩, s4.at fun o q => k i1 (by simp) o q, s5.at fun o q => k i2 (by simp) o q⟩
  item := by
    intro X hP hw hK hc i pins s σ H E I hf st hg
    subst hP hw hK
    obtain ⟨xs, ys, x, y, hq1, hq2, hx, hy⟩ := hg
    obtain ⟨its, rv, p, hz⟩ := I.list hq1
    obtain ⟨its2, rv2, p2, hz2⟩ := I.list hq2
    obtain ⟨u, hu, ru⟩ := rv.get hx
    obtain ⟨u2, hu2, ru2⟩ := rv2.get hy
    obtain ⟨s1, s2, ⟨x', y', s3⟩, s4, s5⟩ := id st
    refine wpAny_pyNext_zip_item D s1 s2 s3 s4 s5 p.isList p2.isList (x := u) (y := u2) (by simpa using hu) (by simpa using hu2) fun h1 a1 a2 a3 a4 a5 a6 a7 => ?_
    have ne : ∀ c ∈ [z, TI, TO, i1, i2], c ≠ s.heap.objs.size := fun c hc q => by
      obtain ⟨o, e, _⟩ := zip_obj st c hc
      rw [q] at e
      exact absurd (Heap.lt_size e) (Nat.lt_irrefl _)
    have I1 : Inv X pins σ (upd H s.heap.objs.size (.tup [x, y])) { s with heap := h1, toks := s.toks } :=
      I.turnLay hf (fun c o hc q => a7 c o (fun z => hc (by simp [z])) (fun z => hc (by simp [z])) (fun z => hc (by simp [z])) (fun z => hc (by simp [z])) q) (Nat.le_refl _) ⟨two_le, [u, u2], .cons ru (.cons ru2 .nil), ⟨_, a5, rfl, _, rfl⟩⟩
    have f1 : ∀ c ∈ [z, TI, TO, i1, i2], FpOk X pins (upd H s.heap.objs.size (.tup [x, y])) c := fun c hc => ⟨by rw [upd_ne (ne c hc)]; exact (hf c hc).1, (hf c hc).2⟩
    refine ⟨_, rfl, wpAny_letOwnedTupleGo_zip a1 fun h2 b1 b2 => ?_⟩
    have I2 : Inv X pins σ (upd H s.heap.objs.size (.tup [x, y])) { s with heap := h2, toks := s.toks } :=
      I1.turnedN (s := { s with heap := h1, toks := s.toks }) (t' := s.toks) (ch := [z]) (fun c hc => f1 c (by rw [List.mem_singleton.mp hc]; simp)) fun c o hc q => (b2.2 c (fun z => hc (by simp [z]))).trans q
    refine ⟨.ref s.heap.objs.size, _, I2, rfl, ⟨_, x, y, rfl, I.hok.fresh (Nat.le_refl _), rfl, fun xs' ys' h1' h2' => by rw [I.list_inj h1' hq1, I.list_inj h2' hq2]; exact ⟨hx, hy⟩⟩, ⟨b1, ?_, ⟨u, u2, ?_⟩, ?_, ?_⟩, fun c hc => (f1 c hc).1⟩
    · exact (b2.2 TI D.TIz).trans (a7 _ _ D.TIz D.TITO D.TIi1 D.TIi2 s2)
    · exact (b2.2 TO D.TOz).trans a2
    · exact a3.at fun o q => (b2.2 i1 D.i1z).trans q
    · exact a4.at fun o q => (b2.2 i2 D.i2z).trans q
  done := by
    intro X hP hw hK hc i pins s σ H E I hf st hg
    subst hP hw hK
    obtain ⟨xs, ys, hq1, hq2, hx⟩ := hg
    obtain ⟨its, rv, p, hz⟩ := I.list hq1
    obtain ⟨its2, rv2, p2, hz2⟩ := I.list hq2
    obtain ⟨s1, s2, ⟨x', y', s3⟩, s4, s5⟩ := st
    have hl := rv.length
    have hl2 := rv2.length
    exact wpAny_pyNext_zip_end (I.ok.hd hc) D s1 s2 s3 s4 s5 p.isList p2.isList (by simp; omega) fun h1 eb => ⟨rfl, I.turnedN (t' := s.toks) (ch := [z, TI, TO, i1, i2]) hf fun c o hc q => eb c o (fun z => hc (by simp [z])) (fun z => hc (by simp [z])) (fun z => hc (by simp [z])) (fun z => hc (by simp [z])) q⟩
  self := fun _ _ _ _ _ st h => wpAny_pyIter_zip st.1 h
def iZip (K : PySem.W.Frag) (ta : TA) : TI := fun σ H R => ta σ H fun vs H1 => ∃ a b, vs = [.ref a, .ref b] ∧ (∃ xs, SqL K H1 a xs) ∧ (∃ ys, SqL K H1 b ys) ∧ R (Itz K a b) H1
theorem pi_zip {X : Cx} {elts : List Expr} {kk : Nat} {tpos : Pos} {a b : Expr} {ta : TA} {p pos : Pos} (hg : Gl X "zip") (hm : X.mg "zip" = none) (ha : PA X [a, b] ta) (hs : starEach [a, b] X.env = [(false, eval a X.env), (false, eval b X.env)] := by rfl) (hs2 : starEach [b] X.env = [(false, eval b X.env)] := by rfl) :
    PI X (.Tuple elts kk tpos) (.Call (.Name "zip" p) [a, b] [] pos) (iZip X.K ta) := by
  intro pins s σ H R I h
  refine Call_ (ld_blt I hg hm PyProof.Rows.boot_zip (PyProof.Rows.callWith_type1 (thn (ha pos pins s σ H _ I h) fun us s1 ⟨vs, H1, I1, r1, q1⟩ => ?_) (by rw [hs, hs2]) (by rw [hs2]; rfl)))
  obtain ⟨l, l2, e, ⟨xs, hq⟩, ⟨ys, hq2⟩, q⟩ := q1
  subst e
  obtain ⟨u, u2, e, ru, ru2⟩ := vals2 r1
  subst e
  obtain rfl : u = Value.ref l := ru
  obtain rfl : u2 = Value.ref l2 := ru2
  obtain ⟨its, rv, pl, hz⟩ := I1.list hq
  obtain ⟨its2, rv2, pl2, hz2⟩ := I1.list hq2
  refine call_zip_2 pl.isList pl2.isList fun h1 b1 b2 b3 b4 b5 b6 b7 => ?_
  refine wpAny_pyIter_zip b1 ?_
  have lt1 : l < s1.heap.objs.size := by obtain ⟨o, e, _⟩ := pl.isList; exact Heap.lt_size e
  have lt2 : l2 < s1.heap.objs.size := by obtain ⟨o, e, _⟩ := pl2.isList; exact Heap.lt_size e
  refine ⟨s1.heap.objs.size + 4, [s1.heap.objs.size + 4, s1.heap.objs.size + 2, s1.heap.objs.size + 3, s1.heap.objs.size, s1.heap.objs.size + 1], _, _, H1, rfl, I1.kept (t' := s1.toks) b7, turn_zip l l2 _ _ _ _ _ ?_, ⟨b1, b2, ⟨_, _, b3⟩, b4, b5⟩, fun c hc => ?_, q⟩
  · constructor <;> first | exact Nat.ne_of_lt (by omega) | exact Nat.ne_of_gt (by omega) | (intro q; rw [q] at lt1; exact absurd lt1 (Nat.not_lt.mpr (Nat.le_add_right _ _))) | (intro q; rw [q] at lt2; exact absurd lt2 (Nat.not_lt.mpr (Nat.le_add_right _ _))) | (intro q; rw [q] at lt1; exact absurd lt1 (Nat.lt_irrefl _)) | (intro q; rw [q] at lt2; exact absurd lt2 (Nat.lt_irrefl _))
  · have hb' : s1.heap.objs.size ≤ c := by
      simp only [List.mem_cons, List.mem_nil_iff, or_false] at hc
      rcases hc with z | z | z | z | z <;> (rw [z]; first | exact Nat.le_add_right _ _ | exact Nat.le_refl _)
    exact I1.fpOk hb' (I1.hok.fresh hb')
end L2
namespace L2
open PySem PySem.Spec PyProof.Rows

theorem vals_get {xs : List V} {us : List Value} (r : Vals xs us) {i : Nat} {u : Value} (h : us[i]? = some u) : ∃ x, xs[i]? = some x ∧ RelV x u := by
  have hl := r.length
  have hi : i < us.length := (List.getElem?_eq_some_iff.mp h).1
  have e : xs[i]? = some xs[i] := List.getElem?_eq_getElem (by omega)
  obtain ⟨u', e', r'⟩ := r.get e
  rw [h] at e'; cases e'
  exact ⟨_, e, r'⟩
theorem strs_of {xs : List Str} : ∀ {us : List Value}, Vals (xs.map V.str) us → StrsAre us xs := by
  induction xs with
  | nil => intro us h; cases h; exact .nil
  | cons x xs ih =>
    intro us h
    cases h with
    | cons r t =>
      obtain ⟨k, rfl⟩ := r
      exact .cons x k (ih t)

section
variable {X : Cx}
/-- sum of a list of ints -/
theorem call_sum (hc : X.calm = true) : CallR X (.builtin "sum") (fun xs H Q => ∃ (p : Addr) (ns : List Int), xs = [.ref p] ∧ SqL X.K H p (ns.map V.int) ∧ Q (.int ns.sum) H) := by
  intro pins s σ H xs us Q I r h
  obtain ⟨p, ns, rfl, hq, q⟩ := h
  obtain ⟨u, rfl, ru⟩ := vals1 r
  obtain rfl : u = Value.ref p := ru
  obtain ⟨its, rv, pl, hz⟩ := I.list hq
  have hi := intsAre_of rv
  obtain ⟨zs, e⟩ := hi.allInts.items
  have hl : s.heap.IsList p (intItems zs) := by rw [← e]; exact pl.isList
  refine sum_intListG (I.ok.hd hc) hl fun h' tk t' k => ?_
  refine ⟨.int ns.sum, H, I.kept k, ⟨t', ?_⟩, q⟩
  have e2 : ns.sum = (numsOf its.toArray.toList).sum := by rw [show its.toArray.toList = its from rfl, hi.numsOf]
  rw [e2, e, nums_intItems, preSum_eq, List.take_of_length_le (by simp)]

/-- truth of a bool -/
theorem truth_bools {P : Program} {w : World} {A : Around} {its : Array Value} {bs : List Bool} (h : its.toList = bs.map Value.bool) : TruthOf P w A (fun i v => its[i]? = some v) (fun i => bs.getD i false) := by
  intro i v s Q E hv hq
  have e : its[i]? = (bs[i]?).map Value.bool := by rw [← Array.getElem?_toList, h, List.getElem?_map]
  rw [e] at hv
  cases hb : bs[i]? with
  | none => rw [hb] at hv; cases hv
  | some b =>
    rw [hb] at hv; cases hv
    have hq' : Q b s := by simpa [hb] using hq
    exact wpAny_pure hq'
theorem range_all (bs : List Bool) : (List.range bs.length).all (fun i => bs.getD i false) = bs.all id := by
  rw [Bool.eq_iff_iff, List.all_eq_true, List.all_eq_true]
  constructor
  · intro h b hb
    obtain ⟨i, hi, rfl⟩ := List.getElem_of_mem hb
    have := h i (List.mem_range.mpr hi)
    simpa [hi] using this
  · intro h i hi
    have hi' := List.mem_range.mp hi
    have := h _ (List.getElem_mem hi')
    simpa [hi'] using this
theorem range_any (bs : List Bool) : (List.range bs.length).any (fun i => bs.getD i false) = bs.any id := by
  rw [Bool.eq_iff_iff, List.any_eq_true, List.any_eq_true]
  constructor
  · rintro ⟨i, hi, h⟩
    have hi' := List.mem_range.mp hi
    refine ⟨_, List.getElem_mem hi', ?_⟩
    simpa [hi'] using h
  · rintro ⟨b, hb, h⟩
    obtain ⟨i, hi, rfl⟩ := List.getElem_of_mem hb
    refine ⟨i, List.mem_range.mpr hi, ?_⟩
    simpa [hi] using h
theorem bools_of {bs : List Bool} : ∀ {us : List Value}, Vals (bs.map V.bl) us → us = bs.map Value.bool := by
  induction bs with
  | nil => intro us h; cases h; rfl
  | cons b bs ih =>
    intro us h
    cases h with
    | cons r t => rw [ih t]; rw [show _ = Value.bool b from r]; rfl
theorem call_all (hc : X.calm = true) : CallR X (.builtin "all") (fun xs H Q => ∃ (p : Addr) (bs : List Bool), xs = [.ref p] ∧ SqL X.K H p (bs.map V.bl) ∧ Q (.bl (bs.all id)) H) := by
  intro pins s σ H xs us Q I r h
  obtain ⟨p, bs, rfl, hq, q⟩ := h
  obtain ⟨u, rfl, ru⟩ := vals1 r
  obtain rfl : u = Value.ref p := ru
  obtain ⟨its, rv, pl, hz⟩ := I.list hq
  have hb := bools_of rv
  have lp : p < s.heap.objs.size := by obtain ⟨o, e, _⟩ := pl.isList; exact Heap.lt_size e
  refine call_all_walk (wpAny_pyIter_list pl.isList ?_)
  have hl : its.toArray.size = bs.length := by rw [hb]; simp
  refine ⟨s.heap.objs.size, _, _, _, _, _, fun i => bs.getD i false, rfl, Walks.list (A := X.A.in1) (I.ok.hd hc) _ p (Nat.ne_of_lt lp) its.toArray, ⟨⟨_, Heap.get?_push_size _ rfl, rfl, rfl⟩, pl.isList.push _⟩, truth_bools (by simpa using hb), fun h' tk k => ?_⟩
  rw [hl, range_all]
  exact ⟨.bl _, H, I.kept fun b o e => k b o (by simp; exact Nat.ne_of_lt (Heap.lt_size e)) (Heap.get?_push_of_some _ e), rfl, q⟩
theorem call_any (hc : X.calm = true) : CallR X (.builtin "any") (fun xs H Q => ∃ (p : Addr) (bs : List Bool), xs = [.ref p] ∧ SqL X.K H p (bs.map V.bl) ∧ Q (.bl (bs.any id)) H) := by
  intro pins s σ H xs us Q I r h
  obtain ⟨p, bs, rfl, hq, q⟩ := h
  obtain ⟨u, rfl, ru⟩ := vals1 r
  obtain rfl : u = Value.ref p := ru
  obtain ⟨its, rv, pl, hz⟩ := I.list hq
  have hb := bools_of rv
  have lp : p < s.heap.objs.size := by obtain ⟨o, e, _⟩ := pl.isList; exact Heap.lt_size e
  refine call_any_walk (wpAny_pyIter_list pl.isList ?_)
  have hl : its.toArray.size = bs.length := by rw [hb]; simp
  refine ⟨s.heap.objs.size, _, _, _, _, _, fun i => bs.getD i false, rfl, Walks.list (A := X.A.in1) (I.ok.hd hc) _ p (Nat.ne_of_lt lp) its.toArray, ⟨⟨_, Heap.get?_push_size _ rfl, rfl, rfl⟩, pl.isList.push _⟩, truth_bools (by simpa using hb), fun h' tk k => ?_⟩
  rw [hl, range_any]
  exact ⟨.bl _, H, I.kept fun b o e => k b o (by simp; exact Nat.ne_of_lt (Heap.lt_size e)) (Heap.get?_push_of_some _ e), rfl, q⟩

/-- a value's own type, by the abstract heap -/
def KindV (K : PySem.W.Frag) (x : V) (H : Hp) (T : String) : Prop := match x with
  | .non => T = "NoneType"
  | .bl _ => T = "bool"
  | .int _ => T = "int"
  | .str _ => T = "str"
  | .ref a => (T = "list" ∧ ∃ xs, SqL K H a xs) ∨ (T = "tuple" ∧ ∃ xs, SqT K H a xs) ∨ (T = "dict" ∧ ∃ kvs, H a = some (.dK kvs))
  | _ => False
/-- is a T a U? (the types met here) -/
def subT (T U : String) : Bool := T == U || (T == "bool" && U == "int")
def rIsi (K : PySem.W.Frag) : List V → Hp → VK → Prop := fun xs H Q => ∃ x T U, xs = [x, .ty U] ∧ KindV K x H T ∧ (U = "list" ∨ U = "str" ∨ U = "int" ∨ U = "bool") ∧ Q (.bl (subT T U)) H
theorem call_isi : CallR X (.builtin "isinstance") (rIsi X.K) := by
  intro pins s σ H xs us Q I r h
  obtain ⟨x, T, U, rfl, hk, hU, q⟩ := h
  obtain ⟨u, v, rfl, ru, rv⟩ := vals2 r
  obtain rfl : v = Value.type U := rv
  have yes : ∀ {T' : String}, T = T' → s.TypeIs u T' → subT T U = true → typeOf (.type U) = pure (.type "type") → isSubtype (.type T') (.type U) = pure true → wpAny (model X.prog X.w) X.A (call (.builtin "isinstance") [u, .type U]) (EP X pins σ Q) X.xe s := fun {T'} e ht hb hty hs =>
    PyProof.Rows.call_isinstance_yes ht hty hs ⟨.bl true, H, I, rfl, by rw [hb] at q; exact q⟩
  have fin : ∀ {b : Bool}, subT T U = b → EP X pins σ Q (.bool b) { s with toks := s.toks + 1 } := fun {b} e => ⟨.bl b, H, I.tok _, rfl, by rw [e] at q; exact q⟩
  cases x with
  | non =>
    obtain rfl : u = Value.none := ru
    obtain rfl : T = "NoneType" := hk
    rcases hU with rfl | rfl | rfl | rfl
    · exact call_isinstance (isinstance_false_none (by decide +kernel) F.isi_meta_list F.sub_NoneType_list) (fin rfl)
    · exact call_isinstance (isinstance_false_none (by decide +kernel) F.isi_meta_str F.sub_NoneType_str) (fin rfl)
    · exact call_isinstance (isinstance_false_none (by decide +kernel) F.isi_meta_int F.sub_NoneType_int) (fin rfl)
    · exact call_isinstance (isinstance_false_none (by decide +kernel) F.isi_meta_bool F.sub_NoneType_bool) (fin rfl)
  | bl b =>
    obtain rfl : u = Value.bool b := ru
    obtain rfl : T = "bool" := hk
    rcases hU with rfl | rfl | rfl | rfl
    · exact call_isinstance (isinstance_false_bool (by decide +kernel) F.isi_meta_list F.sub_bool_list) (fin rfl)
    · exact call_isinstance (isinstance_false_bool (by decide +kernel) F.isi_meta_str F.sub_bool_str) (fin rfl)
    · exact yes rfl (PySem.typeIs_bool s b) rfl F.isi_meta_int F.sub_bool_int
    · exact yes rfl (PySem.typeIs_bool s b) rfl F.isi_meta_bool F.sub_bool_bool
  | int i =>
    obtain ⟨t, rfl⟩ := ru
    obtain rfl : T = "int" := hk
    rcases hU with rfl | rfl | rfl | rfl
    · exact call_isinstance (isinstance_false_int (by decide +kernel) F.isi_meta_list F.sub_int_list) (fin rfl)
    · exact call_isinstance (isinstance_false_int (by decide +kernel) F.isi_meta_str F.sub_int_str) (fin rfl)
    · exact yes rfl (typeIs_int s i t) rfl F.isi_meta_int F.sub_int_int
    · exact call_isinstance (isinstance_false_int (by decide +kernel) F.isi_meta_bool F.sub_int_bool) (fin rfl)
  | str z =>
    obtain ⟨t, rfl⟩ := ru
    obtain rfl : T = "str" := hk
    rcases hU with rfl | rfl | rfl | rfl
    · exact call_isinstance (isinstance_false_str (by decide +kernel) F.isi_meta_list F.sub_str_list) (fin rfl)
    · exact yes rfl (typeIs_str s z t) rfl F.isi_meta_str F.sub_str_str
    · exact call_isinstance (isinstance_false_str (by decide +kernel) F.isi_meta_int F.sub_str_int) (fin rfl)
    · exact call_isinstance (isinstance_false_str (by decide +kernel) F.isi_meta_bool F.sub_str_bool) (fin rfl)
  | ref a =>
    obtain rfl : u = Value.ref a := ru
    rcases hk with ⟨rfl, zs, hq⟩ | ⟨rfl, zs, hq⟩ | ⟨rfl, kvs, hq⟩
    · obtain ⟨its, rv, pl, hz⟩ := I.list hq
      obtain ⟨o, e, c, _⟩ := pl.isList
      rcases hU with rfl | rfl | rfl | rfl
      · exact yes rfl ⟨o, e, c⟩ rfl F.isi_meta_list F.sub_list_list
      · exact call_isinstance (isinstance_false_list (by decide +kernel) F.isi_meta_str F.sub_list_str) ⟨⟨o, e, c⟩, fin rfl⟩
      · exact call_isinstance (isinstance_false_list (by decide +kernel) F.isi_meta_int F.sub_list_int) ⟨⟨o, e, c⟩, fin rfl⟩
      · exact call_isinstance (isinstance_false_list (by decide +kernel) F.isi_meta_bool F.sub_list_bool) ⟨⟨o, e, c⟩, fin rfl⟩
    · obtain ⟨its, rv, pt, hz⟩ := I.tuple hq
      obtain ⟨o, e, c⟩ : s.TypeIs (.ref a) "tuple" := pt.typeIs
      rcases hU with rfl | rfl | rfl | rfl
      · exact call_isinstance (isinstance_false_tuple (by decide +kernel) F.isi_meta_list F.sub_tuple_list) ⟨⟨o, e, c⟩, fin rfl⟩
      · exact call_isinstance (isinstance_false_tuple (by decide +kernel) F.isi_meta_str F.sub_tuple_str) ⟨⟨o, e, c⟩, fin rfl⟩
      · exact call_isinstance (isinstance_false_tuple (by decide +kernel) F.isi_meta_int F.sub_tuple_int) ⟨⟨o, e, c⟩, fin rfl⟩
      · exact call_isinstance (isinstance_false_tuple (by decide +kernel) F.isi_meta_bool F.sub_tuple_bool) ⟨⟨o, e, c⟩, fin rfl⟩
    · obtain ⟨o, e, c⟩ : s.TypeIs (.ref a) "dict" := dict_typeIs I (DGet.k (k := Sum.inl 0) hq)
      rcases hU with rfl | rfl | rfl | rfl
      · exact call_isinstance (isinstance_false_dict (by decide +kernel) F.isi_meta_list F.sub_dict_list) ⟨⟨o, e, c⟩, fin rfl⟩
      · exact call_isinstance (isinstance_false_dict (by decide +kernel) F.isi_meta_str F.sub_dict_str) ⟨⟨o, e, c⟩, fin rfl⟩
      · exact call_isinstance (isinstance_false_dict (by decide +kernel) F.isi_meta_int F.sub_dict_int) ⟨⟨o, e, c⟩, fin rfl⟩
      · exact call_isinstance (isinstance_false_dict (by decide +kernel) F.isi_meta_bool F.sub_dict_bool) ⟨⟨o, e, c⟩, fin rfl⟩
  | byt b => exact absurd hk id
  | flt b => exact absurd hk id
  | ty n => exact absurd hk id

/-- x.count(y) -/
theorem mt_count : MtR X "str.count" (fun x xs H Q => ∃ z y, x = .str z ∧ xs = [.str y] ∧ Q (.int (Builtin.Str.occurrences z y 0 z.length (z.length + 1)).length) H) := by
  intro pins s σ H x xs v us Q I rx rs h
  obtain ⟨z, y, rfl, rfl, q⟩ := h
  obtain ⟨t, rfl⟩ := rx
  obtain ⟨u, rfl, ru⟩ := vals1 rs
  obtain ⟨t', rfl⟩ := ru
  exact SC.count ⟨.int _, H, I.tok _, ⟨_, rfl⟩, q⟩
/-- x.join(texts) -/
theorem mt_join : MtR X "str.join" (fun x xs H Q => ∃ (z : Str) (p : Addr) (ys : List Str), x = .str z ∧ xs = [.ref p] ∧ SqL X.K H p (ys.map V.str) ∧ (ys.map (·.length)).sum + ys.length * z.length ≤ 16777216 ∧ Q (.str (Txt.join z ys)) H) := by
  intro pins s σ H x xs v us Q I rx rs h
  obtain ⟨z, p, ys, rfl, rfl, hq, hz, q⟩ := h
  obtain ⟨t, rfl⟩ := rx
  obtain ⟨u, rfl, ru⟩ := vals1 rs
  obtain rfl : u = Value.ref p := ru
  obtain ⟨its, rv, pl, _⟩ := I.list hq
  exact join_list pl.isList (by simpa using strs_of rv) hz fun t' k => ⟨.str _, H, I.tok _, ⟨_, rfl⟩, q⟩

theorem pick_list {α : Type} (l : List α) (i : Nat) : ∀ k : Nat, ((List.range k).map fun m => i + m).filterMap (l[·]?) = (l.drop i).take k
  | 0 => by simp
  | k + 1 => by
    rw [List.range_succ, List.map_append, List.filterMap_append, pick_list l i k, List.take_add_one, List.getElem?_drop]
    cases e : l[i + k]? <;> simp [e]
theorem sliceRange_one (a b : Nat) : sliceRange (a : Int) (b : Int) 1 = (List.range (b - a)).map fun m => a + m := by
  unfold sliceRange
  rw [if_pos (by decide)]
  have e : (if (a : Int) < b then ((b : Int) - a + 1 - 1) / 1 else 0).toNat = b - a := by
    rw [Int.ediv_one]
    split <;> omega
  dsimp only
  rw [e]
  apply List.map_congr_left
  intro m _
  omega
/-- x[lo:hi] of a text -/
def cutS (x : Str) (lo hi : Option Int) : Str := ⟨((x.cps.toList.drop (HT.sIx x.length 0 lo)).take (HT.sIx x.length x.length hi - HT.sIx x.length 0 lo)).toArray⟩
theorem picked_cut (x : Str) (lo hi : Option Int) : ((Builtin.Str.strSliceIndices lo hi 1 x.length).filterMap (x.cps[·]?)).toArray = (cutS x lo hi).cps := by
  have e : Builtin.Str.strSliceIndices lo hi 1 x.length = sliceRange (sliceBounds lo hi none x.length).1 (sliceBounds lo hi none x.length).2.1 (sliceBounds lo hi none x.length).2.2 := by
    cases lo <;> cases hi <;> rfl
  obtain ⟨e1, e2, e3⟩ := slice_bounds lo hi x.length
  rw [e, e1, e2, e3, sliceRange_one]
  unfold cutS
  have e4 : (fun i : Nat => x.cps[i]?) = fun i : Nat => x.cps.toList[i]? := by funext i; rw [Array.getElem?_toList]
  rw [e4, pick_list]
theorem cutS_len (x : Str) (lo hi : Option Int) : (cutS x lo hi).length ≤ x.length := by
  unfold cutS
  simp only [Str.length, List.size_toArray, List.length_take, List.length_drop, Array.length_toList]
  omega
def rSlS : V → Option Int → Option Int → Hp → VK → Prop := fun x lo hi H Q => ∃ z, x = .str z ∧ z.length ≤ sizeLine ∧ Q (.str (cutS z lo hi)) H
theorem part_of {v : Value} {o : Option Int} (h : IsPart v o) : ∃ p : Option (Int × Tok), v = partValue p ∧ o = p.map (·.1) := by
  cases h with
  | none => exact ⟨none, rfl, rfl⟩
  | int i t => exact ⟨some (i, t), rfl, rfl⟩
theorem sl_str : SlR X rSlS := by
  intro pins s σ H x v vl vu lo hi sl Q I rx hs pl pu h
  obtain ⟨z, rfl, hz, q⟩ := h
  obtain ⟨t, rfl⟩ := rx
  obtain ⟨l, rfl, rfl⟩ := part_of pl
  obtain ⟨u, rfl, rfl⟩ := part_of pu
  refine ⟨"str", _, F.slot_str_getitem.lookup, typeIs_str _ _ _, ?_⟩
  refine wpAny_getItem_str_slice (l := l) (u := u) (st := none) ?_ rfl ?_
  · obtain ⟨o, ho, hc, hd⟩ := hs
    exact ⟨o, ho, hc, hd⟩
  · have e := picked_cut z (l.map (·.1)) (u.map (·.1))
    unfold sliceMade
    split
    · rename_i hw
      have hw' : (slicePicked z l u none).length = z.length := by simpa using hw
      have e2 : cutS z (l.map (·.1)) (u.map (·.1)) = z := by
        have e3 := congrArg Array.toList e
        have n1 := HT.sIx_le z.length 0 (Nat.zero_le _) (l.map (·.1))
        have n2 := HT.sIx_le z.length z.length (Nat.le_refl _) (u.map (·.1))
        have hl : (slicePicked z l u none).length = HT.sIx z.length z.length (u.map (·.1)) - HT.sIx z.length 0 (l.map (·.1)) := by
          obtain ⟨e1, e2, e3⟩ := slice_bounds (l.map (·.1)) (u.map (·.1)) z.length
          have e0 : slicePicked z l u none = sliceRange (sliceBounds (l.map (·.1)) (u.map (·.1)) none z.length).1 (sliceBounds (l.map (·.1)) (u.map (·.1)) none z.length).2.1 (sliceBounds (l.map (·.1)) (u.map (·.1)) none z.length).2.2 := by
            unfold slicePicked
            cases l <;> cases u <;> rfl
          rw [e0, e1, e2, e3, sliceRange_one, List.length_map, List.length_range]
        have a0 : HT.sIx z.length 0 (l.map (·.1)) = 0 := by omega
        have a1 : HT.sIx z.length z.length (u.map (·.1)) = z.length := by omega
        unfold cutS
        rw [a0, a1, List.drop_zero, Nat.sub_zero, List.take_of_length_le (by simp [Str.length])]
      rw [e2] at q
      exact ⟨.str z, H, I, ⟨_, rfl⟩, q⟩
    · have e2 : (⟨((slicePicked z l u none).filterMap (z.cps[·]?)).toArray⟩ : Str) = cutS z (l.map (·.1)) (u.map (·.1)) := by
        have : ((slicePicked z l u none).filterMap (z.cps[·]?)).toArray = (cutS z (l.map (·.1)) (u.map (·.1))).cps := e
        rw [this]
      rw [e2]
      exact ⟨Nat.le_trans (cutS_len _ _ _) hz, .str _, H, I.tok _, ⟨_, rfl⟩, q⟩
end
end L2
namespace L2
open PySem PySem.Spec PyProof.Rows
section
variable {X : Cx}
def eqVs : List V → List V → Bool
  | [], [] => true
  | x :: xs, y :: ys => eqV x y && eqVs xs ys
  | _, _ => false
theorem eqVs_len : ∀ {xs ys : List V}, xs.length ≠ ys.length → eqVs xs ys = false
  | [], [], h => absurd rfl h
  | [], _ :: _, _ => rfl
  | _ :: _, [], _ => rfl
  | x :: xs, y :: ys, h => by
    unfold eqVs
    rw [eqVs_len (xs := xs) (ys := ys) (fun e => h (by simp [e])), Bool.and_false]
theorem eqVs_range : ∀ {xs ys : List V}, xs.length = ys.length → (List.range xs.length).all (fun i => eqV (xs.getD i .non) (ys.getD i .non)) = eqVs xs ys
  | [], [], _ => rfl
  | x :: xs, y :: ys, h => by
    have ih := eqVs_range (xs := xs) (ys := ys) (by simpa using h)
    rw [List.length_cons, List.range_succ_eq_map, List.all_cons, List.all_map]
    unfold eqVs
    rw [← ih]
    rfl
  | [], _ :: _, h => by simp at h
  | _ :: _, [], h => by simp at h
theorem eqVs_strs : ∀ {xs ys : List Str}, eqVs (xs.map V.str) (ys.map V.str) = decide (xs = ys)
  | [], [] => rfl
  | [], _ :: _ => by simp [eqVs]
  | _ :: _, [] => by simp [eqVs]
  | x :: xs, y :: ys => by
    rw [List.map_cons, List.map_cons]
    unfold eqVs
    rw [eqVs_strs (xs := xs) (ys := ys)]
    show (x == y && decide (xs = ys)) = _
    by_cases h1 : x = y <;> by_cases h2 : xs = ys <;> simp [h1, h2]
theorem flat_at {xs : List V} (h : xs.all flatV = true) {i : Nat} {x : V} (e : xs[i]? = some x) : flatV x = true := List.all_eq_true.mp h x (List.mem_of_getElem? e)
theorem eq_items {A : Around} {s : Shared} {xs ys : List V} {us ws : List Value} (r : Vals xs us) (q : Vals ys ws) (fx : xs.all flatV = true) (fy : ys.all flatV = true) (j : Nat) (h1 : j < us.toArray.size) (h2 : j < ws.toArray.size) :
    SeqAt.EqAt A s us.toArray[j] ws.toArray[j] (eqV (xs.getD j .non) (ys.getD j .non)) := by
  obtain ⟨x, ex, rx⟩ := vals_get r (i := j) (u := us.toArray[j]) (by simp at h1; simp [h1])
  obtain ⟨y, ey, ry⟩ := vals_get q (i := j) (u := ws.toArray[j]) (by simp at h2; simp [h2])
  have e1 : xs.getD j .non = x := by simp [ex]
  have e2 : ys.getD j .non = y := by simp [ey]
  rw [e1, e2]
  exact eqAt_V rx ry (flat_at fx ex) (flat_at fy ey)
def rEqL (K : PySem.W.Frag) (neg : Bool) : R2 := fun x y H Q => ∃ a b xs ys, x = .ref a ∧ y = .ref b ∧ SqL K H a xs ∧ SqL K H b ys ∧ xs.all flatV = true ∧ ys.all flatV = true ∧ Q (.bl (if neg then !eqVs xs ys else eqVs xs ys)) H
theorem op_eqL (hu : X.A.units < cLine) : OpR X (compareOp .Eq) (rEqL X.K false) := by
  intro pins s σ H x y v u Q I rx ry h
  obtain ⟨a, b, xs, ys, rfl, rfl, h1, h2, f1, f2, q⟩ := h
  obtain rfl : v = Value.ref a := rx
  obtain rfl : u = Value.ref b := ry
  obtain ⟨us, r1, p1, _⟩ := I.list h1
  obtain ⟨ws, r2, p2, _⟩ := I.list h2
  have l1 := r1.length
  have l2 := r2.length
  by_cases hl : xs.length = ys.length
  · refine SeqAt.eq_listAt p1.isList p2.isList (by simp; omega) hu (eq_items r1 r2 f1 f2) ?_
    rw [List.size_toArray, ← l1, eqVs_range hl]
    exact ⟨.bl _, H, I, rfl, q⟩
  · refine SeqAt.eq_list_lengthsAt p1.isList p2.isList (by simp; omega) hu ?_
    have q' : Q (.bl false) H := by have := eqVs_len hl; simpa [this] using q
    exact ⟨.bl _, H, I, rfl, q'⟩
theorem op_neL (hu : X.A.units < cLine) : OpR X (compareOp .NotEq) (rEqL X.K true) := by
  intro pins s σ H x y v u Q I rx ry h
  obtain ⟨a, b, xs, ys, rfl, rfl, h1, h2, f1, f2, q⟩ := h
  obtain rfl : v = Value.ref a := rx
  obtain rfl : u = Value.ref b := ry
  obtain ⟨us, r1, p1, _⟩ := I.list h1
  obtain ⟨ws, r2, p2, _⟩ := I.list h2
  have l1 := r1.length
  have l2 := r2.length
  by_cases hl : xs.length = ys.length
  · refine SeqAt.RcNeAt.lists p1.isList p2.isList (by simp; omega) hu (eq_items r1 r2 f1 f2) X.prog X.w _ _ ?_
    rw [List.size_toArray, ← l1, eqVs_range hl]
    exact ⟨.bl _, H, I, rfl, q⟩
  · refine SeqAt.RcNeAt.lists_lengths p1.isList p2.isList (by simp; omega) hu X.prog X.w _ _ ?_
    have q' : Q (.bl true) H := by have := eqVs_len hl; simpa [this] using q
    exact ⟨.bl _, H, I, rfl, q'⟩
/-- the items of xs[lo:hi:st] -/
def pickV (xs : List V) (lo hi st : Option Int) : List V := (sliceRange (sliceBounds lo hi st xs.length).1 (sliceBounds lo hi st xs.length).2.1 (sliceBounds lo hi st xs.length).2.2).filterMap (xs[·]?)
theorem vals_pick {xs : List V} {us : List Value} (r : Vals xs us) : ∀ ps : List Nat, Vals (ps.filterMap (xs[·]?)) (ps.filterMap (us[·]?))
  | [] => .nil
  | p :: ps => by
    have ih := vals_pick r ps
    cases e : xs[p]? with
    | none =>
      rw [List.filterMap_cons, List.filterMap_cons, e, r.none_of e]
      exact ih
    | some x =>
      obtain ⟨u, e2, ru⟩ := r.get e
      rw [List.filterMap_cons, List.filterMap_cons, e, e2]
      exact .cons ru ih
def tSl3 (K : PySem.W.Frag) (te : TE) (tl th tk : TO) : TE := fun σ H Q => te σ H fun x H1 => tl σ H1 fun l H2 => th σ H2 fun u H3 => tk σ H3 fun k H4 => k ≠ some 0 ∧ ∃ a xs, x = .ref a ∧ SqL K H4 a xs ∧ ∀ p, H4 p = none → Q (.ref p) (upd H4 p (.lst (pickV xs l u k)))
theorem pe_slice3 {e st : Expr} {lo hi : Option Expr} {te : TE} {tl th tk : TO} {p2 pos : Pos} (he : PE X e te) (hl : PO X lo tl) (hu : PO X hi th) (hk : PO X (some st) tk) : PE X (.Subscript e (.Slice lo hi (some st) p2) pos) (tSl3 X.K te tl th tk) := by
  intro pins s σ H Q I h
  refine Subscript_ (thn (he pins s σ H _ I h) fun v s1 ⟨x, H1, I1, r1, q1⟩ => ?_)
  refine wpAny_Slice (thn (hl pins s1 σ H1 _ I1 q1) fun vl s2 ⟨l, H2, I2, pl, q2⟩ => thn (hu pins s2 σ H2 _ I2 q2) fun vu s3 ⟨u, H3, I3, pu, q3⟩ => thn (hk pins s3 σ H3 _ I3 q3) fun vk s4 ⟨k, H4, I4, pk, h0, a, xs, ex, hq, q⟩ => ?_)
  subst ex
  obtain rfl : v = Value.ref a := r1
  have I5 : Inv X pins σ H4 { s4 with heap := s4.heap.push { cls := .type "slice", data := .fields #[vl, vu, vk] } } := I4.kept (t' := s4.toks) fun b ob z => Heap.get?_push_of_some _ z
  obtain ⟨its, rv, p, hz⟩ := I5.list hq
  have hlen := rv.length
  have hg : wpAny (model X.prog X.w) X.A (getItem (.ref a) (.ref s4.heap.objs.size)) (EP X pins σ Q) X.xe { s4 with heap := s4.heap.push { cls := .type "slice", data := .fields #[vl, vu, vk] } } := by
    refine wpAny_getItem_list_slice p.isList (Heap.IsSliceOf.new ..) pl pu pk h0 ?_ (by rw [List.size_toArray]; omega)
    have e1 : slicePick its.toArray l u k = ((sliceRange (sliceBounds l u k xs.length).1 (sliceBounds l u k xs.length).2.1 (sliceBounds l u k xs.length).2.2).filterMap (its[·]?)).toArray := by
      unfold slicePick
      rw [List.size_toArray, ← hlen]
      simp
    have hsz := slicePick_size_le its.toArray l u k
    rw [e1] at hsz ⊢
    refine ⟨.ref _, _, I5.laid (t' := s4.toks) (o := .lst (pickV xs l u k)) (fun b ob z => Heap.get?_push_of_some _ z) (Nat.le_refl _) ?_, rfl, q _ (I5.hok.fresh (Nat.le_refl _))⟩
    have rp := vals_pick rv (sliceRange (sliceBounds l u k xs.length).1 (sliceBounds l u k xs.length).2.1 (sliceBounds l u k xs.length).2.2)
    have hl2 := rp.length
    refine ⟨?_, _, 0, rp, Heap.get?_push_size _ rfl⟩
    simp only [List.size_toArray] at hsz
    show (pickV xs l u k).length ≤ sizeLine
    unfold pickV
    omega
  show wpAny (model X.prog X.w) X.A (subscriptTail e (.Slice lo hi (some st) p2) (.ref a) (.ref s4.heap.objs.size)) (EP X pins σ Q) X.xe { s4 with heap := s4.heap.push { cls := .type "slice", data := .fields #[vl, vu, vk] } }
  exact tail_any (ops := [.ref a, .ref s4.heap.objs.size]) p.isList.typeIs slot_list_getitem.lookup hg (by with_unfolding_all rfl)

def RngO (lo hi st : Int) (r : Addr) : HO := .ext fun h => ∃ t u v, IsRange h r lo hi st t u v
end
end L2
namespace L2
open PySem PySem.Spec PyProof.Rows
section
variable {X : Cx}
def SetO (P : Program) (w : World) (ns : List Int) (D : Addr) : HO := .ext fun h => Wa.SetAt P w h D ns
end
end L2
namespace L2
open PySem PySem.Spec PyProof.Rows
theorem Same.upd {H H2 : Hp} {D : Addr} {o : HO} (s : Same H H2) (h : H2 D = none) : Same H (upd H2 D o) := fun b u e => by
  rw [upd_ne (ne_of_none (s b u e) h)]
  exact s b u e
theorem Same.tup {K : PySem.W.Frag} {H H' : Hp} {a : Addr} {xs : List V} (e : Same H H') (h : SqT K H a xs) : SqT K H' a xs := by
  rcases h with (h | ⟨o, h⟩) | h
  · exact .inl (.inl (e _ _ h))
  · exact .inl (.inr ⟨o, e _ _ h⟩)
  · exact .inr h
theorem fm_len {α β : Type} (f : α → Option β) (l : List α) : (l.filterMap f).length ≤ l.length := List.length_filterMap_le f l
theorem fm_congr {α β : Type} {f g : α → Option β} : ∀ {l : List α}, (∀ x ∈ l, f x = g x) → l.filterMap f = l.filterMap g
  | [], _ => rfl
  | x :: l, h => by rw [List.filterMap_cons, List.filterMap_cons, h x List.mem_cons_self, fm_congr fun y hy => h y (List.mem_cons_of_mem _ hy)]
/-- what one turn gathers -/
def accO (acc : List V) : Option V → List V
  | some v => acc ++ [v]
  | none => acc
theorem accO_fm {f : Nat → Option V} {i : Nat} : accO ((List.range i).filterMap f) (f i) = (List.range (i + 1)).filterMap f := by
  rw [List.range_succ, List.filterMap_append]
  cases e : f i <;> simp [accO, e]
theorem fm_list {xs : List V} {f : V → Option V} : (List.range xs.length).filterMap (fun i => (xs[i]?).bind f) = xs.filterMap f := by
  have e : xs.filterMap f = ((List.range xs.length).filterMap (xs[·]?)).filterMap f := by
    have := pick_list xs 0 xs.length
    simp only [Nat.zero_add, List.drop_zero, List.take_length, List.map_id_fun', id_eq] at this
    rw [this]
  rw [e, List.filterMap_filterMap]
/-- the block's test and element, at a state, with what they gather -/
def Gv (tc : TT) (te : TE) (σ2 : St) (H1 : Hp) (f : Option V) : Prop :=
  ∀ (H : Hp) (k : Option V → Hp → Prop), Same H1 H → (∀ H', Same H H' → k f H') → tc σ2 H fun b H3 => if b = true then te σ2 H3 fun v H4 => k (some v) H4 else k none H3
section
variable {K : PySem.W.Frag} {lσ : St} {g : TG} {tc : TT} {te : TE} {H1 : Hp} {Q : VK}
theorem compW_of {J : It} {n : Nat} (f : Nat → Option V) (hz : n ≤ sizeLine) (hgo : ∀ i H, Same H1 H → i < n → J.go i H) (hst : ∀ H, Same H1 H → J.stop n H)
    (hs : ∀ i, i < n → ∀ (H : Hp) (k : Option V → Hp → Prop), Same H1 H → (∀ H', Same H H' → k (f i) H') → ∀ x H', J.yld i H x H' → g x lσ H' fun σ2 H2 => tc σ2 H2 fun b H3 => if b = true then te σ2 H3 fun v H4 => k (some v) H4 else k none H3)
    (hd : ∀ D H', Same H1 H' → H1 D = none → H' D = some (.lst ((List.range n).filterMap f)) → Q (.ref D) H') :
    CompV J lσ g tc te H1 Q := by
  refine ⟨fun i m acc H => m = n - i ∧ i ≤ n ∧ Same H1 H ∧ acc = (List.range i).filterMap f, ⟨n, by simp, Nat.zero_le _, Same.refl _, rfl⟩, ?_⟩
  rintro i m acc H ⟨rfl, hi, s, rfl⟩
  by_cases hlt : i < n
  · refine .inr ⟨hgo i H s hlt, ?_, fun acc' H' => Same H1 H' ∧ acc' = (List.range (i + 1)).filterMap f, fun acc' H' ⟨s', e⟩ => ⟨n - (i + 1), by omega, rfl, hlt, s', e⟩, fun x H' y => ?_⟩
    · have := fm_len f (List.range i)
      rw [List.length_range] at this
      omega
    · exact hs i hlt H (fun o H' => Same H1 H' ∧ accO ((List.range i).filterMap f) o = (List.range (i + 1)).filterMap f) s (fun H' s' => ⟨s.trans s', accO_fm⟩) x H' y
  · have e : i = n := by omega
    subst e
    exact .inl ⟨hst H s, fun D hD => hd D _ (s.upd hD) (s.free hD) upd_same⟩
/-- over a list -/
theorem comp_list {a : Addr} {xs : List V} {i0 : Nat} (f : V → Option V) (hq : SqL K H1 a xs) (hz : xs.length ≤ sizeLine) (hs : ∀ x ∈ xs, Gv tc te (lσ.set i0 (some x)) H1 (f x))
    (hd : ∀ D H', Same H1 H' → H1 D = none → H' D = some (.lst (xs.filterMap f)) → Q (.ref D) H') : CompV (Itl K a) lσ (gName i0) tc te H1 Q := by
  refine compW_of (n := xs.length) (fun i => (xs[i]?).bind f) hz (fun i H s hi => ⟨xs, xs[i], s.seq hq, by simp [hi]⟩) (fun H s => ⟨xs, s.seq hq, Nat.le_refl _⟩) (fun i hi H k s hk x H' y => ?_) ?_
  · obtain ⟨e, y⟩ := y
    subst e
    have hx := y xs (s.seq hq)
    refine hs x (List.mem_of_getElem? hx) _ k s fun H' s' => ?_
    have := hk H' s'
    rw [hx] at this
    exact this
  · rw [fm_list]; exact hd
/-- over lo, lo + 1, .. -/
theorem comp_range {lo : Int} {n i0 : Nat} (f : Nat → Option V) (hz : n ≤ sizeLine) (hs : ∀ i, i < n → Gv tc te (lσ.set i0 (some (.int (lo + i)))) H1 (f i))
    (hd : ∀ D H', Same H1 H' → H1 D = none → H' D = some (.lst ((List.range n).filterMap f)) → Q (.ref D) H') : CompV (Itr lo n) lσ (gName i0) tc te H1 Q := by
  refine compW_of f hz (fun i H s hi => hi) (fun H s => Nat.le_refl _) (fun i hi H k s hk x H' y => ?_) hd
  obtain ⟨e, y⟩ := y
  subst e y
  exact hs i hi _ k s hk
/-- two names at once -/
abbrev gPair (K : PySem.W.Frag) (i j : Nat) : TG := gTup K 2 (gCons (gName i) (gCons (gName j) gNil))
theorem gPair_of {i j : Nat} {T : Addr} {v w : V} {H : Hp} {Q : St → Hp → Prop} (hT : SqT K H T [v, w]) (h : Q ((lσ.set i (some v)).set j (some w)) H) : gPair K i j (.ref T) lσ H Q :=
  ⟨T, [v, w], rfl, hT, rfl, v, [w], rfl, w, [], rfl, rfl, h⟩
/-- over enumerate(xs) -/
theorem comp_enum {a : Addr} {xs : List V} {i0 j0 : Nat} (f : Nat → Option V) (hq : SqL K H1 a xs) (hz : xs.length ≤ sizeLine) (hs : ∀ (i : Nat) (x : V), xs[i]? = some x → Gv tc te ((lσ.set i0 (some (.int i))).set j0 (some x)) H1 (f i))
    (hd : ∀ D H', Same H1 H' → H1 D = none → H' D = some (.lst ((List.range xs.length).filterMap f)) → Q (.ref D) H') : CompV (Ite K a) lσ (gPair K i0 j0) tc te H1 Q := by
  refine compW_of f hz (fun i H s hi => ⟨xs, xs[i], s.seq hq, by simp [hi]⟩) (fun H s => ⟨xs, s.seq hq, Nat.le_refl _⟩) (fun i hi H k s hk x H' y => ?_) hd
  obtain ⟨T, x, rfl, hT, rfl, hx⟩ := y
  have s2 : Same H (upd H T (.tup [.int i, x])) := (Same.refl H).upd hT
  exact gPair_of (.of upd_same) (hs i x (hx xs (s.seq hq)) _ k (s.trans s2) fun H' s' => hk H' (s2.trans s'))
/-- over zip(xs, ys) -/
theorem comp_zip {a b : Addr} {xs ys : List V} {i0 j0 : Nat} (f : Nat → Option V) (hq : SqL K H1 a xs) (hq2 : SqL K H1 b ys) (hl : xs.length = ys.length) (hz : xs.length ≤ sizeLine)
    (hs : ∀ i x y, xs[i]? = some x → ys[i]? = some y → Gv tc te ((lσ.set i0 (some x)).set j0 (some y)) H1 (f i))
    (hd : ∀ D H', Same H1 H' → H1 D = none → H' D = some (.lst ((List.range xs.length).filterMap f)) → Q (.ref D) H') : CompV (Itz K a b) lσ (gPair K i0 j0) tc te H1 Q := by
  refine compW_of f hz (fun i H s hi => ⟨xs, ys, xs[i], ys[i], s.seq hq, s.seq hq2, by simp [hi], by simp [hl ▸ hi]⟩) (fun H s => ⟨xs, ys, s.seq hq, s.seq hq2, .inl (Nat.le_refl _)⟩) (fun i hi H k s hk x H' y => ?_) hd
  obtain ⟨T, x, z, rfl, hT, rfl, hx⟩ := y
  have s2 : Same H (upd H T (.tup [x, z])) := (Same.refl H).upd hT
  obtain ⟨e1, e2⟩ := hx xs ys (s.seq hq) (s.seq hq2)
  exact gPair_of (.of upd_same) (hs i x z e1 e2 _ k (s.trans s2) fun H' s' => hk H' (s2.trans s'))
/-- no test -/
theorem Gv.map {te : TE} {σ2 : St} {v : V} (h : ∀ (H : Hp) (k : V → Hp → Prop), Same H1 H → (∀ H', Same H H' → k v H') → te σ2 H k) : Gv tIfs0 te σ2 H1 (some v) :=
  fun H k s hk => by
    unfold tIfs0
    dsimp only
    rw [if_pos rfl]
    exact h H (fun v H' => k (some v) H') s hk
theorem fm_some {α β : Type} (f : α → β) (l : List α) : l.filterMap (fun x => some (f x)) = l.map f := by
  induction l with
  | nil => rfl
  | cons x l ih => rw [List.filterMap_cons, List.map_cons, ih]
end
def ForW (J : It) (g : TG) (tb : TS) (D : Ends) (σ : St) (H : Hp) : Prop := ∃ W : Nat → Nat → St → Hp → Prop, (∃ m, W 0 m σ H) ∧ ∀ i m σ H, W i m σ H →
  (J.stop i H ∧ D.nx σ H) ∨ (J.go i H ∧ ∃ N : St → Hp → Prop, (∀ σ' H', N σ' H' → ∃ m', m' < m ∧ W (i + 1) m' σ' H') ∧ ∀ x H', J.yld i H x H' → g x σ H' fun σ2 H2 => tb { D with nx := N, ct := N, bk := D.nx } σ2 H2)
theorem tFor_eq (wi : TI) (g : TG) (tb : TS) : tFor wi g tb = fun D σ H => wi σ H fun J H1 => ForW J g tb D σ H1 := rfl
section
variable {K : PySem.W.Frag} {g : TG} {tb : TS} {D : Ends} {σ : St} {H : Hp}
theorem for_listW {a : Addr} {xs : List V} (Pv : Nat → St → Hp → Prop) (h0 : Pv 0 σ H) (hl : ∀ i σ H, i ≤ xs.length → Pv i σ H → SqL K H a xs)
    (hs : ∀ i x σ H, xs[i]? = some x → Pv i σ H → g x σ H fun σ2 H2 => tb { D with nx := Pv (i + 1), ct := Pv (i + 1), bk := D.nx } σ2 H2) (hd : ∀ σ H, Pv xs.length σ H → D.nx σ H) : ForW (Itl K a) g tb D σ H := for_list Pv h0 hl hs hd
theorem for_rangeW {lo : Int} {n : Nat} (Pv : Nat → St → Hp → Prop) (h0 : Pv 0 σ H)
    (hs : ∀ i σ H, i < n → Pv i σ H → g (.int (lo + i)) σ H fun σ2 H2 => tb { D with nx := Pv (i + 1), ct := Pv (i + 1), bk := D.nx } σ2 H2) (hd : ∀ σ H, Pv n σ H → D.nx σ H) : ForW (Itr lo n) g tb D σ H := for_range Pv h0 hs hd
end
/-- one statement, then the rest -/
theorem seq_cut {t u : TS} {D : Ends} {σ : St} {H : Hp} (Pc : St → Hp → Prop) (h1 : ∀ nx' : St → Hp → Prop, (∀ σ H, Pc σ H → nx' σ H) → t { D with nx := nx' } σ H) (h2 : ∀ σ H, Pc σ H → u D σ H) : tSeq t u D σ H := h1 _ h2
theorem Same.mut {H H' : Hp} {D : Addr} {o : HO} (s : Same H H') (h : H D = none) : Same H (L2.upd H' D o) := fun b u e => by
  have n : b ≠ D := fun z => by rw [z, h] at e; cases e
  rw [upd_ne n]
  exact s b u e
/-- a loop's source, then its turns -/
theorem for_cut {wi : TI} {g : TG} {tb : TS} {D : Ends} {σ : St} {H : Hp} (Pj : It → Hp → Prop) (h1 : ∀ R : It → Hp → Prop, (∀ J H1, Pj J H1 → R J H1) → wi σ H R) (h2 : ∀ J H1, Pj J H1 → ForW J g tb D σ H1) : tFor wi g tb D σ H := h1 _ h2
end L2
namespace L2
open PySem PySem.Spec PyProof.Rows
structure DefC (P : Program) (w : World) (K : PySem.W.Frag) (mg : Str → Option Value) (base : Heap) (k : Nat) (x : Str) (ps : List Str) (sp : Sp) : Prop where
  ex : ∃ f fd, FnOk P w K mg base CX0 k f fd ps sp ∧ mg x = some (.ref f) ∧ PySem.W.keepIn K (.ref f) = true ∧ Binds K fd ps []
section
variable {X : Cx} {k j : Nat} {x : Str} {ps : List Str} {sp : Sp} {e : Expr} {es : List Expr} {t : TA} {p pos : Pos}
theorem pe_callC (C : DefC X.prog X.w X.K X.mg X.base k x ps sp) (hr : Room j X.A) (hg : Gl X x) (ha : PA X (e :: es) t) (hk : k ≤ j := by decide) (hdb : (x == ("__debug__" : Str)) = false := by decide)
    (he : starEach (e :: es) X.env = (false, eval e X.env) :: starEach es X.env := by rfl) (hpl : (backTo pos (starEach es X.env)).any (·.1) = false := by rfl) : PE X (.Call (.Name x p) (e :: es) [] pos) (tCall sp [] E0 t) := by
  obtain ⟨f, fd, F, hm, hkp, hb⟩ := C.ex
  exact pe_call (F.mono hk) hr hg hm hkp hb .nil pass0 ha hdb he hpl
end

theorem bt_len : bootBuiltins "len" = some (.builtin "len") := by decide +kernel
theorem bt_sum : bootBuiltins "sum" = some (.builtin "sum") := by decide +kernel
theorem bt_all : bootBuiltins "all" = some (.builtin "all") := by decide +kernel
theorem bt_any : bootBuiltins "any" = some (.builtin "any") := by decide +kernel
theorem bt_isinstance : bootBuiltins "isinstance" = some (.builtin "isinstance") := by decide +kernel
theorem bt_list : bootBuiltins "list" = some (.type "list") := by decide +kernel
theorem bt_str : bootBuiltins "str" = some (.type "str") := by decide +kernel
theorem bt_int : bootBuiltins "int" = some (.type "int") := by decide +kernel
theorem bt_bool : bootBuiltins "bool" = some (.type "bool") := by decide +kernel
theorem bt_range : bootBuiltins "range" = some (.type "range") := by decide +kernel
/-- the names that the text does not bind -/
structure Nm (mg : Str → Option Value) : Prop where
  n_len : mg "len" = none
  n_sum : mg "sum" = none
  n_all : mg "all" = none
  n_any : mg "any" = none
  n_sorted : mg "sorted" = none
  n_isinstance : mg "isinstance" = none
  n_list : mg "list" = none
  n_str : mg "str" = none
  n_int : mg "int" = none
  n_bool : mg "bool" = none
  n_set : mg "set" = none
  n_range : mg "range" = none
  n_enumerate : mg "enumerate" = none
  n_zip : mg "zip" = none
theorem iteTb {c : Bool} {A B : Prop} (hc : c = true) (h : A) : if c = true then A else B := by rw [if_pos hc]; exact h
theorem iteFb {c : Bool} {A B : Prop} (hc : c = false) (h : B) : if c = true then A else B := by rw [if_neg (by rw [hc]; exact Bool.false_ne_true)]; exact h
theorem ite_cases {c : Bool} {A B : Prop} (h1 : c = true → A) (h2 : c = false → B) : if c = true then A else B := by
  cases c with
  | true => exact iteTb rfl (h1 rfl)
  | false => exact iteFb rfl (h2 rfl)
end L2
namespace L2
open PySem PySem.Spec PyProof.Rows
/-- two readings of one expression -/
theorem PE.or {X : Cx} {e : Expr} {t u : TE} (h1 : PE X e t) (h2 : PE X e u) : PE X e (fun σ H Q => t σ H Q ∨ u σ H Q) := by
  intro pins s σ H Q I q
  rcases q with q | q
  · exact h1 pins s σ H Q I q
  · exact h2 pins s σ H Q I q
/-- what the walk asks of a class whose objects are asked by isinstance -/
structure Kl (K : PySem.W.Frag) (C : Addr) : Prop where
  cl : Cls K C
  ha : PySem.W.findIn K (.ref C) "__class__" = some (some (.builtin "object.__class__"))
  hn : PySem.W.specialIn K (.builtin "object.__class__") "__get__" = some (some (.builtin "getset_descriptor.__get__"))
  htk : PySem.W.takesIn K (.builtin "object.__class__") = some true
  hm : PySem.W.mroIn K C (.type "object") = some true
theorem Kl.ty {K : PySem.W.Frag} {H : Hp} {C a dx : Addr} {fs : List (Str × V)} (k : Kl K C) (e : H a = some (.ins C dx fs)) : TyOf K H (.ref a) (.ref C) := .ins e k.cl k.ha k.hn k.htk k.hm
section
variable {X : Cx}
def rIsiO (K : PySem.W.Frag) : List V → Hp → VK → Prop := fun xs H Q => ∃ x C t b, xs = [x, .ref C] ∧ TyOf K H x t ∧ PySem.W.kitOne K t (.ref C) = some b ∧ Q (.bl b) H
theorem call_isiO : CallR X (.builtin "isinstance") (rIsiO X.K) := by
  intro pins s σ H xs us Q I r h
  obtain ⟨x, C, t, b, rfl, ty, e, q⟩ := h
  obtain ⟨u, v, rfl, ru, rv⟩ := vals2 r
  obtain rfl : v = Value.ref C := rv
  exact isinst_ok I ru ty e fun tk => ⟨.bl b, H, I.tok _, rfl, q⟩
/-- is, is not: of two bools -/
theorem op_is_bl : OpR X (compareOp .Is) (fun x y H Q => ∃ a b, x = .bl a ∧ y = .bl b ∧ Q (.bl (a == b)) H) := by
  intro pins s σ H x y v u Q I rx ry h
  obtain ⟨a, b, rfl, rfl, q⟩ := h
  obtain rfl : v = Value.bool a := rx
  obtain rfl : u = Value.bool b := ry
  refine wpAny_is_plain (by cases a <;> cases b <;> rfl) ⟨.bl (a == b), H, I, ?_, q⟩
  show Value.bool _ = Value.bool _
  cases a <;> cases b <;> rfl
theorem op_isnot_bl : OpR X (compareOp .IsNot) (fun x y H Q => ∃ a b, x = .bl a ∧ y = .bl b ∧ Q (.bl (!(a == b))) H) := by
  intro pins s σ H x y v u Q I rx ry h
  obtain ⟨a, b, rfl, rfl, q⟩ := h
  obtain rfl : v = Value.bool a := rx
  obtain rfl : u = Value.bool b := ry
  refine wpAny_isNot_plain (by cases a <;> cases b <;> rfl) ⟨.bl (!(a == b)), H, I, ?_, q⟩
  show Value.bool _ = Value.bool _
  cases a <;> cases b <;> rfl
/-- xs.count(y), flat items -/
theorem mt_countL (hu : X.A.units < cLine) : MtR X "list.count" (fun x xs H Q => ∃ p ys y, x = .ref p ∧ xs = [y] ∧ SqL X.K H p ys ∧ ys.all flatV = true ∧ flatV y = true ∧ Q (.int ((ys.filter fun z => eqV z y).length : Nat)) H) := by
  intro pins s σ H x xs v us Q I rx rs h
  obtain ⟨p, ys, y, rfl, rfl, hq, fy, f, q⟩ := h
  obtain rfl : v = Value.ref p := rx
  obtain ⟨u, rfl, ru⟩ := vals1 rs
  obtain ⟨its, rv, pl, hz⟩ := I.list hq
  obtain ⟨⟨cls, dd, data, sl⟩, ho, hc, n, hd⟩ := id pl.isList
  simp only at hc hd
  subst hc hd
  refine call_meets PySem.F.slot_list_count ⟨_, ho, rfl⟩ PySem.F.entry_list_count (PySem.F.args_list_count_2 _ _) (SeqAt.list_countAt p its.toArray n dd sl u (eqU y)) ⟨ho, fun z hz' => mem_eqAt ru f rv fy z (by simpa using hz'), ?_⟩
  have e : ((its.toArray.toList.countP (eqU y)) : Nat) = (ys.filter fun z => eqV z y).length := by
    rw [show its.toArray.toList = its from rfl]
    clear ho hq pl hz q
    induction rv with
    | nil => rfl
    | cons r t ih =>
      rw [List.all_cons, Bool.and_eq_true] at fy
      rw [List.countP_cons, eqU_of r fy.1, ih fy.2, List.filter_cons]
      split <;> simp_all
  refine ⟨.int _, H, I.tok _, ⟨s.toks, ?_⟩, q⟩
  rw [← e]
end
structure MetC (P : Program) (w : World) (K : PySem.W.Frag) (mg : Str → Option Value) (base : Heap) (k : Nat) (C : Addr) (m : Str) (ps : List Str) (sp : Sp) : Prop where
  ex : ∃ f fd, FnOk P w K mg base CX0 k f fd ps sp ∧ Meth K C m f ∧ Binds K fd ps []
  cl : Cls K C
structure MakC (P : Program) (w : World) (K : PySem.W.Frag) (mg : Str → Option Value) (base : Heap) (k : Nat) (x : Str) (C : Addr) (ps : List Str) (sp : Sp) : Prop where
  ex : ∃ f fd, FnOk P w K mg base CX0 k f fd ps sp ∧ Mk K C f ∧ Binds K fd ps []
  mg : mg x = some (.ref C)
section
variable {X : Cx} {k j : Nat} {x m : Str} {C : Addr} {ps : List Str} {sp : Sp} {o e : Expr} {es : List Expr} {ta : TE} {t : TA} {p pos apos : Pos}
theorem pe_methC {pl : Sem Bool} (M : MetC X.prog X.w X.K X.mg X.base k C m ps sp) (hr : Room j X.A) (ho : PE X o ta) (ha : PA X (e :: es) t) (hk : k ≤ j := by decide)
    (hst : starEach (e :: es) X.env = (false, eval e X.env) :: starEach es X.env := by rfl) (hpl : (backTo pos (starEach es X.env)).any (·.1) = false := by rfl)
    (ht : eval (.Call (.Attribute o m apos) (e :: es) [] pos) X.env = (do
      let ov ← eval o X.env
      standAt apos.atName
      let (f, first) ← holding [ov] (getMethod ov m pl)
      callWith pos f first (backTo pos (starEach (e :: es) X.env)) (backToKw pos (keywordEach [] X.env))) := by rfl) :
    PE X (.Call (.Attribute o m apos) (e :: es) [] pos) (tMeth C m sp [] E0 ta t) := by
  obtain ⟨f, fd, F, hm, hb⟩ := M.ex
  exact pe_meth (pl := pl) ho M.cl hm (F.mono hk) hr hb .nil pass0 ha hst hpl ht
theorem pe_makeC (M : MakC X.prog X.w X.K X.mg X.base k x C ps sp) (hr : Room j X.A) (hg : Gl X x) (ha : PA X (e :: es) t) (hk : k + 1 ≤ j := by decide) (hdb : (x == ("__debug__" : Str)) = false := by decide)
    (he : starEach (e :: es) X.env = (false, eval e X.env) :: starEach es X.env := by rfl) (hpl : (backTo pos (starEach es X.env)).any (·.1) = false := by rfl) :
    PE X (.Call (.Name x p) (e :: es) [] pos) (tMake C sp [] E0 t) := by
  obtain ⟨f, fd, F, hm, hb⟩ := M.ex
  exact pe_make hm F (hr.mono hk) hg M.mg hb .nil pass0 ha hdb he hpl
end
end L2
namespace L2
open PySem PySem.Spec PyProof.Rows
/-- a zip object's parts lie apart -/
structure ZA (z TI TO i j : Addr) (fi fj : List Addr) : Prop where
  tz : TI ≠ z
  oz : TO ≠ z
  tto : TI ≠ TO
  mi : i ∈ fi
  mj : j ∈ fj
  zi : z ∉ fi
  zj : z ∉ fj
  oi : TO ∉ fi
  oj : TO ∉ fj
  ti : TI ≠ i
  tj : TI ≠ j
  ij : i ∉ fj
  ji : j ∉ fi
section
variable {P : Program} {w : World} {A : Around} {E : Value → Shared → Prop} {s : Shared} {z TI TO i j : Addr} {fi fj : List Addr} {n m k l : Nat} {Pi Pj : Nat → Value → Prop} {Si Sj : Nat → Heap → Prop} {a b : Value}
theorem ZA.iz (Z : ZA z TI TO i j fi fj) : i ≠ z := fun q => Z.zi (q ▸ Z.mi)
theorem ZA.jz (Z : ZA z TI TO i j fi fj) : j ≠ z := fun q => Z.zj (q ▸ Z.mj)
theorem ZA.io (Z : ZA z TI TO i j fi fj) : i ≠ TO := fun q => Z.oi (q ▸ Z.mi)
theorem ZA.jo (Z : ZA z TI TO i j fi fj) : j ≠ TO := fun q => Z.oj (q ▸ Z.mj)
theorem ZA.ne (Z : ZA z TI TO i j fi fj) : i ≠ j := fun q => Z.ij (q ▸ Z.mj)
/-- what a pair's place holds after one of its items was put -/
theorem pair_put {T : Addr} {x : Value} {Q : Unit → Shared → Prop} {q : Nat} (hT : IsPair s.heap T a b) (h : ∀ h1, IsPair h1 T (if q = 0 then x else a) (if q = 0 then b else x) → Heap.SameBut T s.heap h1 → Q () { s with heap := h1 }) (hq : q < 2) :
    wpAny (model P w) A (updateSeq T (·.setIfInBounds q x)) Q E s := by
  refine wpAny_updateSeq_pair hT fun h1 e1 b1 => h h1 ?_ b1
  match q, hq with
  | 0, _ => exact e1
  | 1, _ => exact e1
theorem zipD_item {Q : Value → Shared → Prop} (Z : ZA z TI TO i j fi fj) (Di : Draws P w A i fi n Pi Si) (Dj : Draws P w A j fj m Pj Sj) (hz : IsZip s.heap z TI TO .none) (hp : IsPair s.heap TI (.ref i) (.ref j)) (ho : IsPair s.heap TO a b)
    (hi : Si k s.heap) (hj : Sj l s.heap) (li : k < n) (lj : l < m)
    (hQ : ∀ h' t' x y, Pi k x → Pj l y → IsZip h' z TI TO (rawInt s.heap.objs.size) → IsPair h' TO x y → Si (k + 1) h' → Sj (l + 1) h' → IsPair h' s.heap.objs.size x y →
      (∀ c o, c ∉ [z, TO, i, j] → s.heap.get? c = some o → h'.get? c = some o) → Q (.ref s.heap.objs.size) { s with heap := h', toks := t' }) :
    wpAny (model P w) A (Builtin.«zip.__next__» ⟨[.ref z], []⟩) (fun fin s' => ∃ v, fin = .done (.ret v) ∧ Q v s') E s := by
  obtain ⟨hp0, g, d, t0, os⟩ := s
  refine wpAny_bind (m := field (.ref z) 2) (wpAny_field hz rfl (x := Value.bool false) rfl (wpAny_bind (m := field (.ref z) 3) (wpAny_field hz rfl (x := Value.ref TI) rfl (wpAny_bind (wpAny_seqItems hp rfl ?_)))))
  refine wpAny_bind (m := Builtin.SmallTypes.ownedTupleIsFree (.ref z)) ?_
  delta Builtin.SmallTypes.ownedTupleIsFree
  refine wpAny_bind (wpAny_field hz rfl (x := Value.none) rfl (wpAny_pure ?_))
  simp only [if_true]
  refine wpAny_bind (wpAny_rule (wpAny_bind (wpAny_field hz rfl (x := Value.ref TO) rfl (wpAny_bind (wpAny_setField_rec hz (by simp) fun h1 z1 e1 => ?_)))))
  replace z1 : IsZip h1 z TI TO .ellipsis := z1
  replace e1 : Heap.SameBut z hp0 h1 := e1
  refine wpAny_bind ?_
  simp only [List.zipIdx_cons, List.zipIdx_nil, List.forIn_cons, List.forIn_nil]
  have i1 : Si k h1 := Di.frame _ _ _ hi fun c hc o e => e1.extBut c o (fun q => Z.zi (q ▸ hc)) e
  have j1 : Sj l h1 := Dj.frame _ _ _ hj fun c hc o e => e1.extBut c o (fun q => Z.zj (q ▸ hc)) e
  refine wpAny_bind (wpAny_bind (wpAny_onRaise ?_))
  refine wpAny_bind (m := Builtin.SmallTypes.nextOf (.ref i)) (Di.item k _ _ _ li i1 fun x h2 t2 px i2 e2 => wpAny_pure ?_)
  replace e2 : Heap.SameBut i h1 h2 := e2
  have o2 : IsPair h2 TO a b := e2.extBut _ _ Z.io.symm (e1.extBut _ _ Z.oz ho)
  refine wpAny_bind (wpAny_seqItems o2 rfl (wpAny_bind (pair_put o2 (q := 0) (fun h3 o3 e3 => ?_) (by decide))))
  replace o3 : IsPair h3 TO x b := o3
  replace e3 : Heap.SameBut TO h2 h3 := e3
  refine wpAny_bind (wpAny_letGo (wpAny_pure ?_))
  have i3 : Si (k + 1) h3 := Di.frame _ _ _ i2 fun c hc o e => e3.extBut c o (fun q => Z.oi (q ▸ hc)) e
  have j3 : Sj l h3 := Dj.frame _ _ _ j1 fun c hc o e => e3.extBut c o (fun q => Z.oj (q ▸ hc)) (e2.extBut c o (fun q => Z.ij (q ▸ hc)) e)
  refine wpAny_bind (wpAny_bind (wpAny_onRaise ?_))
  refine wpAny_bind (m := Builtin.SmallTypes.nextOf (.ref j)) (Dj.item l _ _ _ lj j3 fun y h4 t4 py j4 e4 => wpAny_pure ?_)
  replace e4 : Heap.SameBut j h3 h4 := e4
  have o4 : IsPair h4 TO x b := e4.extBut _ _ Z.jo.symm o3
  refine wpAny_bind (wpAny_seqItems o4 rfl (wpAny_bind (pair_put o4 (q := 1) (fun h5 o5 e5 => ?_) (by decide))))
  replace o5 : IsPair h5 TO x y := o5
  replace e5 : Heap.SameBut TO h4 h5 := e5
  have i5 : Si (k + 1) h5 := Di.frame _ _ _ i3 fun c hc o e => e5.extBut c o (fun q => Z.oi (q ▸ hc)) (e4.extBut c o (fun q => Z.ji (q ▸ hc)) e)
  have j5 : Sj (l + 1) h5 := Dj.frame _ _ _ j4 fun c hc o e => e5.extBut c o (fun q => Z.oj (q ▸ hc)) e
  refine wpAny_bind (wpAny_letGo (wpAny_pure (wpAny_pure (wpAny_bind (wpAny_seqItems o5 rfl (wpAny_bind (wpAny_newTuple ?_)))))))
  have sz : h5.objs.size = hp0.objs.size := by rw [e5.1, e4.1, e3.1, e2.1, e1.1]
  have z5 : IsZip h5 z TI TO .ellipsis := e5.extBut _ _ Z.oz.symm (e4.extBut _ _ Z.jz.symm (e3.extBut _ _ Z.oz.symm (e2.extBut _ _ Z.iz.symm z1)))
  have k5 : ∀ c o, c ∉ [z, TO, i, j] → hp0.get? c = some o → h5.get? c = some o := fun c o hc e => by
    simp only [List.mem_cons, List.mem_nil_iff, or_false, not_or] at hc
    exact e5.extBut _ _ hc.2.1 (e4.extBut _ _ hc.2.2.2 (e3.extBut _ _ hc.2.1 (e2.extBut _ _ hc.2.2.1 (e1.extBut _ _ hc.1 e))))
  refine wpAny_bind (m := Builtin.SmallTypes.ownedTupleHandOut (.ref z) (.ref h5.objs.size)) ?_
  delta Builtin.SmallTypes.ownedTupleHandOut
  have zlt : z < h5.objs.size := Heap.lt_size z5
  refine wpAny_bind (wpAny_setField_rec (Heap.get?_push_of_some _ z5) (by simp) fun h7 z7 e7 => ?_)
  refine wpAny_setField_rec z7 (by simp) fun h8 z8 e8 => wpAny_pure ⟨_, rfl, ?_⟩
  have up : ∀ c o, c ≠ z → h5.get? c = some o → h8.get? c = some o := fun c o hc e => e8.extBut _ _ hc (e7.extBut _ _ hc (Heap.get?_push_of_some _ e))
  have p8 : IsPair h8 h5.objs.size x y := e8.extBut _ _ (Nat.ne_of_gt zlt) (e7.extBut _ _ (Nat.ne_of_gt zlt) (Heap.get?_push_size _ rfl))
  rw [sz] at p8
  replace z8 : IsZip h8 z TI TO (rawInt h5.objs.size) := z8
  rw [sz] at z8
  show Q (.ref h5.objs.size) _
  rw [sz]
  exact hQ h8 t4 x y px py z8 (up _ _ Z.oz o5) (Di.frame _ _ _ i5 fun c hc o e => up c o (fun q => Z.zi (q ▸ hc)) e) (Dj.frame _ _ _ j5 fun c hc o e => up c o (fun q => Z.zj (q ▸ hc)) e) p8 fun c o hc e => up c o (fun q => hc (by simp [q])) (k5 c o hc e)
/-- one of the two is at its end -/
theorem zipD_end {Q : Fin → Shared → Prop} (Z : ZA z TI TO i j fi fj) (Di : Draws P w A i fi n Pi Si) (Dj : Draws P w A j fj m Pj Sj) (hz : IsZip s.heap z TI TO .none) (hp : IsPair s.heap TI (.ref i) (.ref j)) (ho : IsPair s.heap TO a b)
    (hend : Si n s.heap ∨ (k < n ∧ Si k s.heap ∧ Sj m s.heap))
    (hE : ∀ h' t' e, (∀ c o, c ∉ [z, TO, i, j] → s.heap.get? c = some o → h'.get? c = some o) → (∃ o, h'.get? e = some o ∧ o.cls = .type "StopIteration") → E (.ref e) { s with heap := h', toks := t' }) :
    wpAny (model P w) A (Builtin.«zip.__next__» ⟨[.ref z], []⟩) Q E s := by
  obtain ⟨hp0, g, d, t0, os⟩ := s
  refine wpAny_bind (m := field (.ref z) 2) (wpAny_field hz rfl (x := Value.bool false) rfl (wpAny_bind (m := field (.ref z) 3) (wpAny_field hz rfl (x := Value.ref TI) rfl (wpAny_bind (wpAny_seqItems hp rfl ?_)))))
  refine wpAny_bind (m := Builtin.SmallTypes.ownedTupleIsFree (.ref z)) ?_
  delta Builtin.SmallTypes.ownedTupleIsFree
  refine wpAny_bind (wpAny_field hz rfl (x := Value.none) rfl (wpAny_pure ?_))
  simp only [if_true]
  refine wpAny_bind (wpAny_rule (wpAny_bind (wpAny_field hz rfl (x := Value.ref TO) rfl (wpAny_bind (wpAny_setField_rec hz (by simp) fun h1 z1 e1 => ?_)))))
  replace z1 : IsZip h1 z TI TO .ellipsis := z1
  replace e1 : Heap.SameBut z hp0 h1 := e1
  refine wpAny_bind ?_
  simp only [List.zipIdx_cons, List.zipIdx_nil, List.forIn_cons, List.forIn_nil]
  refine wpAny_bind (wpAny_bind (wpAny_onRaise ?_))
  have not_z : ∀ {h : Heap} {e : Addr} {o : Obj}, IsZip h z TI TO .ellipsis → h.get? e = some o → o.cls = .type "StopIteration" → e ≠ z := fun zz eo ec q => by
    subst q
    rw [zz] at eo
    cases eo
    simp at ec
  rcases hend with hi | ⟨li, hi, hj⟩
  · have i1 : Si n h1 := Di.frame _ _ _ hi fun c hc o e => e1.extBut c o (fun q => Z.zi (q ▸ hc)) e
    refine wpAny_bind (m := Builtin.SmallTypes.nextOf (.ref i)) (Di.done _ _ _ i1 fun h2 e e2 he => ?_)
    obtain ⟨oe, eo, ec⟩ := he
    have z2 : IsZip h2 z TI TO .ellipsis := e2 _ _ Z.iz.symm z1
    refine wpAny_setField_rec z2 (by simp) fun h3 _ e3 => hE h3 _ e (fun c o hc q => ?_) ⟨oe, e3.extBut _ _ (not_z z2 eo ec) eo, ec⟩
    simp only [List.mem_cons, List.mem_nil_iff, or_false, not_or] at hc
    exact e3.extBut _ _ hc.1 (e2 _ _ hc.2.2.1 (e1.extBut _ _ hc.1 q))
  · have i1 : Si k h1 := Di.frame _ _ _ hi fun c hc o e => e1.extBut c o (fun q => Z.zi (q ▸ hc)) e
    have j1 : Sj m h1 := Dj.frame _ _ _ hj fun c hc o e => e1.extBut c o (fun q => Z.zj (q ▸ hc)) e
    refine wpAny_bind (m := Builtin.SmallTypes.nextOf (.ref i)) (Di.item k _ _ _ li i1 fun x h2 t2 px i2 e2 => wpAny_pure ?_)
    replace e2 : Heap.SameBut i h1 h2 := e2
    have o2 : IsPair h2 TO a b := e2.extBut _ _ Z.io.symm (e1.extBut _ _ Z.oz ho)
    refine wpAny_bind (wpAny_seqItems o2 rfl (wpAny_bind (pair_put o2 (q := 0) (fun h3 o3 e3 => ?_) (by decide))))
    replace e3 : Heap.SameBut TO h2 h3 := e3
    refine wpAny_bind (wpAny_letGo (wpAny_pure (wpAny_bind (wpAny_bind (wpAny_onRaise ?_)))))
    have j3 : Sj m h3 := Dj.frame _ _ _ j1 fun c hc o e => e3.extBut c o (fun q => Z.oj (q ▸ hc)) (e2.extBut c o (fun q => Z.ij (q ▸ hc)) e)
    refine wpAny_bind (m := Builtin.SmallTypes.nextOf (.ref j)) (Dj.done _ _ _ j3 fun h4 e e4 he => ?_)
    obtain ⟨oe, eo, ec⟩ := he
    have z4 : IsZip h4 z TI TO .ellipsis := e4 _ _ Z.jz.symm (e3.extBut _ _ Z.oz.symm (e2.extBut _ _ Z.iz.symm z1))
    refine wpAny_setField_rec z4 (by simp) fun h5 _ e5 => hE h5 _ e (fun c o hc q => ?_) ⟨oe, e5.extBut _ _ (not_z z4 eo ec) eo, ec⟩
    simp only [List.mem_cons, List.mem_nil_iff, or_false, not_or] at hc
    exact e5.extBut _ _ hc.1 (e4 _ _ hc.2.2.2 (e3.extBut _ _ hc.2.1 (e2.extBut _ _ hc.2.2.1 (e1.extBut _ _ hc.1 q))))
theorem nextD_item {Q : Option Value → Shared → Prop} (Z : ZA z TI TO i j fi fj) (Di : Draws P w A.in1 i fi n Pi Si) (Dj : Draws P w A.in1 j fj m Pj Sj) (hz : IsZip s.heap z TI TO .none) (hp : IsPair s.heap TI (.ref i) (.ref j)) (ho : IsPair s.heap TO a b)
    (hi : Si k s.heap) (hj : Sj l s.heap) (li : k < n) (lj : l < m)
    (hQ : ∀ h' t' x y, Pi k x → Pj l y → IsZip h' z TI TO (rawInt s.heap.objs.size) → IsPair h' TO x y → Si (k + 1) h' → Sj (l + 1) h' → IsPair h' s.heap.objs.size x y →
      (∀ c o, c ∉ [z, TO, i, j] → s.heap.get? c = some o → h'.get? c = some o) → Q (some (.ref s.heap.objs.size)) { s with heap := h', toks := t' }) : wpAny (model P w) A (pyNext (.ref z)) Q E s := by
  have ty : s.TypeIs (.ref z) "zip" := ⟨_, hz, rfl⟩
  delta pyNext
  exact wpAny_bind (wpAny_attempt (wpAny_callSpecial?_slot (name := Str.ofString "__next__") ty F.slot_zip_next (wpAny_call_entry F.slot_zip_next ty F.entry_zip_next
    (zipD_item Z Di Dj hz hp ho hi hj li lj fun h' t' x y c1 c2 c3 c4 c5 c6 c7 c8 => wpAny_pure (hQ h' t' x y c1 c2 c3 c4 c5 c6 c7 c8)) (F.args_zip_next_1 _))))
theorem nextD_end {Q : Option Value → Shared → Prop} (Z : ZA z TI TO i j fi fj) (Di : Draws P w A.in1 i fi n Pi Si) (Dj : Draws P w A.in1 j fj m Pj Sj) (hz : IsZip s.heap z TI TO .none) (hp : IsPair s.heap TI (.ref i) (.ref j)) (ho : IsPair s.heap TO a b)
    (hend : Si n s.heap ∨ (k < n ∧ Si k s.heap ∧ Sj m s.heap))
    (hQ : ∀ h' t', (∀ c o, c ∉ [z, TO, i, j] → s.heap.get? c = some o → h'.get? c = some o) → Q none { s with heap := h', toks := t' }) : wpAny (model P w) A (pyNext (.ref z)) Q E s := by
  have ty : s.TypeIs (.ref z) "zip" := ⟨_, hz, rfl⟩
  delta pyNext
  refine wpAny_bind (wpAny_attempt (wpAny_callSpecial?_slot (name := Str.ofString "__next__") ty F.slot_zip_next (wpAny_call_entry F.slot_zip_next ty F.entry_zip_next (zipD_end Z Di Dj hz hp ho hend fun h' t' e hk he => ?_) (F.args_zip_next_1 _))))
  obtain ⟨o, eo, ec⟩ := he
  exact wpAny_bind (wpAny_isInstance (T := "StopIteration") (b := true) ⟨o, eo, ec⟩ isSubtype_stop (wpAny_pure (hQ _ _ hk)))
end
inductive ZS where
  | l (a : Addr)
  | t (x : Str)
def ZS.val : ZS → V
  | .l a => .ref a
  | .t x => .str x
/-- the item at i -/
def ZS.at' (K : PySem.W.Frag) (S : ZS) (i : Nat) (H : Hp) (v : V) : Prop :=
  match S with
  | .l a => ∃ xs, SqL K H a xs ∧ xs[i]? = some v
  | .t x => ∃ c, x.cps.toList[i]? = some c ∧ v = .str ⟨#[c]⟩
/-- there are i items -/
def ZS.len (K : PySem.W.Frag) (S : ZS) (i : Nat) (H : Hp) : Prop :=
  match S with
  | .l a => ∃ xs, SqL K H a xs ∧ xs.length = i
  | .t x => x.length = i
/-- its iterator stands at i -/
def ZS.st (S : ZS) (it : Addr) (i : Nat) (h : Heap) : Prop :=
  match S with
  | .l a => h.IsListIter it a i
  | .t x => ∃ u, h.IsStrIter it (strIterType x) x u i
theorem ZS.st_obj {S : ZS} {it : Addr} {i : Nat} {h : Heap} (q : S.st it i h) : ∃ o, h.get? it = some o ∧ (∀ v, o.data ≠ .cell v) ∧ o.cls ≠ .type "list" := by
  match S with
  | .l a =>
    obtain ⟨o, e, c, d⟩ := q
    exact ⟨o, e, fun v z => by (rw [d] at z; cases z), by (rw [c]; decide)⟩
  | .t x =>
    obtain ⟨u, o, e, c, d⟩ := q
    refine ⟨o, e, fun v z => by (rw [d] at z; cases z), ?_⟩
    rw [c]
    unfold strIterType
    split <;> decide
theorem ZS.st_at {S : ZS} {it : Addr} {i : Nat} {h h' : Heap} (q : S.st it i h) (k : ∀ o, h.get? it = some o → h'.get? it = some o) : S.st it i h' := by
  match S with
  | .l a => exact Heap.IsListIter.at q k
  | .t x =>
    obtain ⟨u, o, e, c, d⟩ := q
    exact ⟨u, o, k o e, c, d⟩
/-- how a source draws -/
structure ZD (P : Program) (w : World) (S : ZS) (it : Addr) (h0 : Heap) (n : Nat) (Pi : Nat → Value → Prop) (Si : Nat → Heap → Prop) (fi : List Addr) : Prop where
  dr : ∀ A : Around, A.handled = none → Draws P w A it fi n Pi Si
  st : ∀ k h, Si k h → S.st it k h
  mi : it ∈ fi
  fp : ∀ b ∈ fi, b = it ∨ ∃ its, h0.IsList b its
theorem ZS.drawsT {P : Program} {w : World} {x : Str} {it : Addr} {k : Nat} {h0 : Heap} (q : (ZS.t x).st it k h0) :
    ∃ Si, ZD P w (.t x) it h0 x.length (fun i v => ∃ c u, x.cps[i]? = some c ∧ v = .str ⟨#[c]⟩ u) Si [it] ∧ Si k h0 := by
  obtain ⟨u, q⟩ := q
  cases ha : x.cps.all (· < 128) with
  | true =>
    have e : strIterType x = "str_ascii_iterator" := by unfold strIterType; rw [ha]; rfl
    rw [e] at q
    exact ⟨_, ⟨fun A hA => Draws.strAscii hA it x u, fun k h z => ⟨u, by rw [e]; exact z⟩, by simp, fun b hb => .inl (by simpa using hb)⟩, q⟩
  | false =>
    have e : strIterType x = "str_iterator" := by unfold strIterType; rw [ha]; rfl
    rw [e] at q
    exact ⟨_, ⟨fun A hA => Draws.strWide hA it x u, fun k h z => ⟨u, by rw [e]; exact z⟩, by simp, fun b hb => .inl (by simpa using hb)⟩, q⟩
theorem ZS.drawsL {P : Program} {w : World} {a it : Addr} {k : Nat} {h0 : Heap} {its : Array Value} (q : (ZS.l a).st it k h0) (hl : h0.IsList a its) :
    ZD P w (.l a) it h0 its.size (fun i v => its[i]? = some v) (fun i h => h.IsListIter it a i ∧ h.IsList a its) [it, a] := by
  have ne : a ≠ it := fun z => by
    obtain ⟨o, e, c, _⟩ := q
    obtain ⟨o2, e2, c2, _⟩ := hl
    rw [z, e] at e2
    cases e2
    rw [c] at c2
    exact absurd c2 (by decide)
  exact ⟨fun A hA => Draws.list hA it a ne its, fun k h z => z.1, by simp, fun b hb => by
    rcases List.mem_cons.mp hb with z | z
    · exact .inl z
    · exact .inr ⟨its, by rw [List.mem_singleton.mp z]; exact hl⟩⟩
section
variable {X : Cx} {pins : List (Addr × Obj)} {σ : St} {H : Hp} {s : Shared} {S : ZS} {it : Addr} {k : Nat} {x : V}
theorem ZS.item (I : Inv X pins σ H s) (q : S.st it k s.heap) (h : S.at' X.K k H x) : ∃ n Pi Si fi, ZD X.prog X.w S it s.heap n Pi Si fi ∧ Si k s.heap ∧ k < n ∧ ∀ u, Pi k u → RelV x u := by
  match S with
  | .l a =>
    obtain ⟨xs, hq, hx⟩ := h
    obtain ⟨its, rv, p, hz⟩ := I.list hq
    obtain ⟨u, hu, ru⟩ := rv.get hx
    refine ⟨_, _, _, _, ZS.drawsL q p.isList, ⟨q, p.isList⟩, ?_, fun v hv => ?_⟩
    · have := (List.getElem?_eq_some_iff.mp hu).1
      simpa using this
    · have : v = u := by
        have e : its[k]? = some v := by simpa using hv
        rw [hu] at e
        exact (Option.some.inj e).symm
      rw [this]
      exact ru
  | .t z =>
    obtain ⟨c, hc, rfl⟩ := h
    obtain ⟨Si, D, qk⟩ := ZS.drawsT (P := X.prog) (w := X.w) q
    refine ⟨_, _, _, _, D, qk, ?_, fun v hv => ?_⟩
    · have := (List.getElem?_eq_some_iff.mp hc).1
      show k < z.cps.size
      simpa using this
    · obtain ⟨c', u, e, rfl⟩ := hv
      have : c' = c := by
        have e' : z.cps.toList[k]? = some c' := by simpa using e
        rw [hc] at e'
        exact (Option.some.inj e').symm
      rw [this]
      exact ⟨u, rfl⟩
theorem ZS.stop (I : Inv X pins σ H s) (q : S.st it k s.heap) (h : S.len X.K k H) : ∃ Pi Si fi, ZD X.prog X.w S it s.heap k Pi Si fi ∧ Si k s.heap := by
  match S with
  | .l a =>
    obtain ⟨xs, hq, hx⟩ := h
    obtain ⟨its, rv, p, hz⟩ := I.list hq
    have e : its.toArray.size = k := by
      have := rv.length
      simp
      omega
    have D := ZS.drawsL (P := X.prog) (w := X.w) q p.isList
    rw [e] at D
    exact ⟨_, _, _, D, q, p.isList⟩
  | .t z =>
    obtain ⟨Si, D, qk⟩ := ZS.drawsT (P := X.prog) (w := X.w) q
    have e : z.length = k := h
    rw [e] at D
    exact ⟨_, _, _, D, qk⟩
theorem ZS.kept {m : Nat} (I : Inv X pins σ H s) (q : S.st it k s.heap) (h : S.len X.K m H) : ∃ n Pi Si fi, ZD X.prog X.w S it s.heap n Pi Si fi := by
  match S with
  | .l a =>
    obtain ⟨xs, hq, hx⟩ := h
    obtain ⟨its, rv, p, hz⟩ := I.list hq
    exact ⟨_, _, _, _, ZS.drawsL q p.isList⟩
  | .t z =>
    obtain ⟨Si, D, qk⟩ := ZS.drawsT (P := X.prog) (w := X.w) q
    exact ⟨_, _, _, _, D⟩
theorem ZS.at_inj {y : V} (I : Inv X pins σ H s) (h : S.at' X.K k H x) (h2 : S.at' X.K k H y) : x = y := by
  match S with
  | .l a =>
    obtain ⟨xs, hq, hx⟩ := h
    obtain ⟨ys, hq2, hy⟩ := h2
    rw [I.list_inj hq2 hq, hx] at hy
    exact Option.some.inj hy
  | .t z =>
    obtain ⟨c, hc, rfl⟩ := h
    obtain ⟨d, hd, rfl⟩ := h2
    rw [hc] at hd
    rw [Option.some.inj hd]
end
/-- the pairs of S and R -/
def Itp (K : PySem.W.Frag) (S R : ZS) : It :=
  ⟨fun i H => ∃ x y, S.at' K i H x ∧ R.at' K i H y,
    fun i H z H' => ∃ T x y, z = .ref T ∧ H T = none ∧ H' = upd H T (.tup [x, y]) ∧ (∀ x', S.at' K i H x' → x = x') ∧ ∀ y', R.at' K i H y' → y = y',
    fun i H => (S.len K i H ∧ ∃ m, R.len K m H) ∨ ∃ x, S.at' K i H x ∧ R.len K i H⟩
/-- where the five objects stand -/
def ZSt (S R : ZS) (z TI TO i1 i2 : Addr) (k : Nat) (h : Heap) : Prop :=
  IsZip h z TI TO .none ∧ IsPair h TI (.ref i1) (.ref i2) ∧ (∃ x y, IsPair h TO x y) ∧ S.st i1 k h ∧ R.st i2 k h
theorem ZSt.obj {S R : ZS} {z TI TO i1 i2 : Addr} {k : Nat} {h : Heap} (q : ZSt S R z TI TO i1 i2 k h) : ∀ c ∈ [z, TI, TO, i1, i2], ∃ o, h.get? c = some o ∧ (∀ v, o.data ≠ .cell v) ∧ o.cls ≠ .type "list" := fun c hc => by
  obtain ⟨q1, q2, ⟨x, y, q3⟩, q4, q5⟩ := q
  simp only [List.mem_cons, List.mem_nil_iff, or_false] at hc
  rcases hc with e | e | e | e | e <;> subst e
  · exact ⟨_, q1, (fun v q => nomatch q), (show Value.type "zip" ≠ .type "list" by decide)⟩
  · exact ⟨_, q2, (fun v q => nomatch q), (show Value.type "tuple" ≠ .type "list" by decide)⟩
  · exact ⟨_, q3, (fun v q => nomatch q), (show Value.type "tuple" ≠ .type "list" by decide)⟩
  · exact ZS.st_obj q4
  · exact ZS.st_obj q5
structure ZN (z TI TO i1 i2 : Addr) : Prop where
  tz : TI ≠ z
  oz : TO ≠ z
  iz : i1 ≠ z
  jz : i2 ≠ z
  tto : TI ≠ TO
  ti : TI ≠ i1
  tj : TI ≠ i2
  oi : TO ≠ i1
  oj : TO ≠ i2
  ij : i1 ≠ i2
theorem ZSt.apart {P : Program} {w : World} {S R : ZS} {z TI TO i1 i2 : Addr} {k n m : Nat} {h : Heap} {Pi Pj Si Sj fi fj} (N : ZN z TI TO i1 i2) (q : ZSt S R z TI TO i1 i2 k h) (Di : ZD P w S i1 h n Pi Si fi) (Dj : ZD P w R i2 h m Pj Sj fj) : ZA z TI TO i1 i2 fi fj := by
  have no : ∀ c ∈ [z, TI, TO, i1, i2], ∀ its, ¬ h.IsList c its := fun c hc its ⟨o, e, cl, _⟩ => by
    obtain ⟨o2, e2, _, n2⟩ := q.obj c hc
    rw [e] at e2
    cases e2
    exact n2 cl
  have out : ∀ {S : ZS} {it : Addr} {n Pi Si fi}, ZD P w S it h n Pi Si fi → ∀ c ∈ [z, TI, TO, i1, i2], c ≠ it → c ∉ fi := fun D c hc hn hm => by
    rcases D.fp c hm with e | ⟨its, e⟩
    · exact hn e
    · exact no c hc its e
  exact ⟨N.tz, N.oz, N.tto, Di.mi, Dj.mi, out Di z (by simp) N.iz.symm, out Dj z (by simp) N.jz.symm, out Di TO (by simp) N.oi, out Dj TO (by simp) N.oj, N.ti, N.tj, out Dj i1 (by simp) N.ij, out Di i2 (by simp) N.ij.symm⟩
theorem turn_zipX {P : Program} {w : World} {K : PySem.W.Frag} {elts : List Expr} {kk : Nat} {pos : Pos} (S R : ZS) (z TI TO i1 i2 : Addr) (N : ZN z TI TO i1 i2) :
    Turn P w K (.Tuple elts kk pos) (Itp K S R) [z, TI, TO, i1, i2] z (ZSt S R z TI TO i1 i2) where
  mem := by simp
  obj := fun i h st b hb => let ⟨o, e, d, _⟩ := st.obj b hb; ⟨o, e, d⟩
  keep := fun i h h' st k => by
    obtain ⟨q1, q2, ⟨x, y, q3⟩, q4, q5⟩ := st
    exact ⟨k z (by simp) _ q1, k TI (by simp) _ q2, ⟨x, y, k TO (by simp) _ q3⟩, ZS.st_at q4 fun o q => k i1 (by simp) o q, ZS.st_at q5 fun o q => k i2 (by simp) o q⟩
  item := by
    intro X hP hw hK hc i pins s σ H E I hf st hg
    subst hP hw hK
    obtain ⟨x, y, hx, hy⟩ := hg
    obtain ⟨q1, q2, ⟨x', y', q3⟩, q4, q5⟩ := id st
    obtain ⟨n, Pi, Si, fi, Di, si, li, ri⟩ := ZS.item I q4 hx
    obtain ⟨m, Pj, Sj, fj, Dj, sj, lj, rj⟩ := ZS.item I q5 hy
    refine nextD_item (st.apart N Di Dj) (Di.dr _ (I.ok.hd hc)) (Dj.dr _ (I.ok.hd hc)) q1 q2 q3 si sj li lj fun h1 t1 u v c1 c2 c3 c4 c5 c6 c7 c8 => ?_
    have ne : ∀ c ∈ [z, TI, TO, i1, i2], c ≠ s.heap.objs.size := fun c hc q => by
      obtain ⟨o, e, _⟩ := st.obj c hc
      rw [q] at e
      exact absurd (Heap.lt_size e) (Nat.lt_irrefl _)
    have I1 : Inv X pins σ (upd H s.heap.objs.size (.tup [x, y])) { s with heap := h1, toks := t1 } :=
      I.turnLay hf (fun c o hc q => c8 c o (fun hz => hc (by
        simp only [List.mem_cons, List.mem_nil_iff, or_false] at hz ⊢
        rcases hz with e | e | e | e <;> simp [e])) q) (Nat.le_refl _) ⟨two_le, [u, v], .cons (ri u c1) (.cons (rj v c2) .nil), ⟨_, c7, rfl, _, rfl⟩⟩
    have f1 : ∀ c ∈ [z, TI, TO, i1, i2], FpOk X pins (upd H s.heap.objs.size (.tup [x, y])) c := fun c hc => ⟨by rw [upd_ne (ne c hc)]; exact (hf c hc).1, (hf c hc).2⟩
    refine ⟨_, rfl, wpAny_letOwnedTupleGo_zip c3 fun h2 b1 b2 => ?_⟩
    have I2 : Inv X pins σ (upd H s.heap.objs.size (.tup [x, y])) { s with heap := h2, toks := t1 } :=
      I1.turnedN (s := { s with heap := h1, toks := t1 }) (t' := t1) (ch := [z]) (fun c hc => f1 c (by rw [List.mem_singleton.mp hc]; simp)) fun c o hc q => (b2.2 c (fun z => hc (by simp [z]))).trans q
    refine ⟨.ref s.heap.objs.size, _, I2, rfl, ⟨_, x, y, rfl, I.hok.fresh (Nat.le_refl _), rfl, fun x2 h2' => ?_, fun y2 h2' => ?_⟩, ⟨b1, ?_, ⟨u, v, ?_⟩, ?_, ?_⟩, fun c hc => (f1 c hc).1⟩
    · exact ZS.at_inj I hx h2'
    · exact ZS.at_inj I hy h2'
    · exact (b2.2 TI N.tz).trans (c8 _ _ (by simp [N.tz, N.tto, N.ti, N.tj]) q2)
    · exact (b2.2 TO N.oz).trans c4
    · exact ZS.st_at (Di.st _ _ c5) fun o q => (b2.2 i1 N.iz).trans q
    · exact ZS.st_at (Dj.st _ _ c6) fun o q => (b2.2 i2 N.jz).trans q
  done := by
    intro X hP hw hK hc i pins s σ H E I hf st hg
    subst hP hw hK
    obtain ⟨q1, q2, ⟨x', y', q3⟩, q4, q5⟩ := id st
    have fin : ∀ h' t', (∀ c o, c ∉ [z, TO, i1, i2] → s.heap.get? c = some o → h'.get? c = some o) → (none : Option Value) = none ∧ Inv X pins σ H { s with heap := h', toks := t' } := fun h' t' hk =>
      ⟨rfl, I.turnedN (ch := [z, TI, TO, i1, i2]) hf fun c o hc q => hk c o (fun hz => hc (by
        simp only [List.mem_cons, List.mem_nil_iff, or_false] at hz ⊢
        rcases hz with e | e | e | e <;> simp [e])) q⟩
    rcases hg with ⟨hx, m, hy⟩ | ⟨x, hx, hy⟩
    · obtain ⟨Pi, Si, fi, Di, si⟩ := ZS.stop I q4 hx
      obtain ⟨m, Pj, Sj, fj, Dj⟩ := ZS.kept I q5 hy
      exact nextD_end (k := 0) (st.apart N Di Dj) (Di.dr _ (I.ok.hd hc)) (Dj.dr _ (I.ok.hd hc)) q1 q2 q3 (.inl si) fin
    · obtain ⟨n, Pi, Si, fi, Di, si, li, ri⟩ := ZS.item I q4 hx
      obtain ⟨Pj, Sj, fj, Dj, sj⟩ := ZS.stop I q5 hy
      exact nextD_end (st.apart N Di Dj) (Di.dr _ (I.ok.hd hc)) (Dj.dr _ (I.ok.hd hc)) q1 q2 q3 (.inr ⟨li, si, sj⟩) fin
  self := fun _ _ _ _ _ st h => wpAny_pyIter_zip st.1 h
/-- the iterator of a value -/
def ItO (v : Value) (o : Obj) (pre : Heap → Prop) : Prop :=
  (∀ h o', pre h → pre (h.push o')) ∧ ∀ (P : Program) (w : World) (A : Around) (Q : Value → Shared → Prop) (E : Value → Shared → Prop) (s : Shared), pre s.heap → Q (.ref s.heap.objs.size) { s with heap := s.heap.push o } → wpAny (model P w) A (pyIter v) Q E s
abbrev zh1 (h : Heap) (o1 : Obj) : Heap := h.push o1
abbrev zh2 (h : Heap) (o1 o2 : Obj) : Heap := (h.push o1).push o2
abbrev zh3 (h : Heap) (o1 o2 : Obj) : Heap := (zh2 h o1 o2).push { cls := .type "tuple", data := .seq #[.ref h.objs.size, .ref (zh1 h o1).objs.size] }
abbrev zh4 (h : Heap) (o1 o2 : Obj) : Heap := (zh3 h o1 o2).push { cls := .type "tuple", data := .seq #[.none, .none] }
abbrev zh5 (h : Heap) (o1 o2 : Obj) : Heap := (zh4 h o1 o2).push { cls := .type "zip", data := .fields #[.none, .bool false, .bool false, .ref (zh2 h o1 o2).objs.size, .ref (zh3 h o1 o2).objs.size] }
theorem zip_newX {v1 v2 : Value} {o1 o2 : Obj} {p1 p2 : Heap → Prop} (h1 : ItO v1 o1 p1) (h2 : ItO v2 o2 p2) :
    Meets (Builtin.«zip.__new__» ⟨[.type "zip", v1, v2], []⟩) (fun _ R s => p1 s.heap ∧ p2 s.heap ∧ R (.ok (.ret (.ref (zh4 s.heap o1 o2).objs.size))) { s with heap := zh5 s.heap o1 o2 }) :=
  .of_wp fun P w A R s h => by
    obtain ⟨hp, g, d, tk, os⟩ := s
    obtain ⟨q1, q2, h⟩ := h
    have hsub := sub_zip
    have r1 := fun A Q E => h1.2 P w A Q E ⟨hp, g, d, tk, os⟩ q1
    have r2 := fun A Q E => h2.2 P w A Q E ⟨hp.push o1, g, d, tk, os⟩ (h2.1 _ _ q2)
    wp_walk using r1 _ _ _, r2 _ _ _
    exact ⟨_, rfl, h⟩
end L2
namespace L2
open PySem PySem.Spec PyProof.Rows
def ZS.ok (K : PySem.W.Frag) (S : ZS) (H : Hp) : Prop :=
  match S with
  | .l a => ∃ xs, SqL K H a xs
  | .t _ => True
theorem itO_list (a : Addr) : ItO (.ref a) { cls := .type "list_iterator", data := .fields #[.ref a, .int 0 0] } (fun h => ∃ its, h.IsList a its) :=
  ⟨fun h o ⟨its, q⟩ => ⟨its, q.push o⟩, fun P w A Q E s ⟨its, q⟩ hQ => wpAny_pyIter_list q hQ⟩
theorem itO_text (x : Str) (u : Tok) : ItO (.str x u) { cls := .type (strIterType x), data := .fields #[.str x u, .int 0 0] } (fun _ => True) :=
  ⟨fun _ _ _ => trivial, fun P w A Q E s _ hQ => wpAny_pyIter_strU hQ⟩
section
variable {X : Cx} {pins : List (Addr × Obj)} {σ : St} {H : Hp} {s : Shared}
theorem ZS.itO {S : ZS} {v : Value} (I : Inv X pins σ H s) (r : RelV S.val v) (h : S.ok X.K H) : ∃ o p, ItO v o p ∧ p s.heap ∧ o.isFreed = false ∧ ∀ (it : Addr) (h' : Heap), h'.get? it = some o → S.st it 0 h' := by
  match S with
  | .l a =>
    obtain rfl : v = Value.ref a := r
    obtain ⟨xs, hq⟩ := h
    obtain ⟨its, rv, p, hz⟩ := I.list hq
    exact ⟨_, _, itO_list a, ⟨_, p.isList⟩, rfl, fun it h' e => ⟨_, e, rfl, rfl⟩⟩
  | .t x =>
    obtain ⟨u, rfl⟩ := r
    exact ⟨_, _, itO_text x u, trivial, rfl, fun it h' e => ⟨u, _, e, rfl, rfl⟩⟩
theorem call_zipX {A : Around} {E : Value → Shared → Prop} {P : Program} {w : World} {v1 v2 : Value} {o1 o2 : Obj} {p1 p2 : Heap → Prop} {Q : Value → Shared → Prop} (h1 : ItO v1 o1 p1) (h2 : ItO v2 o2 p2) (q1 : p1 s.heap) (q2 : p2 s.heap) (f1 : o1.isFreed = false) (f2 : o2.isFreed = false)
    (h : ∀ h' n, n = s.heap.objs.size → IsZip h' (n + 4) (n + 2) (n + 3) .none → IsPair h' (n + 2) (.ref n) (.ref (n + 1)) → IsPair h' (n + 3) .none .none → h'.get? n = some o1 → h'.get? (n + 1) = some o2 →
      (∀ c o, s.heap.get? c = some o → h'.get? c = some o) → Q (.ref (n + 4)) { s with heap := h' }) : wpAny (model P w) A (call (.type "zip") [v1, v2]) Q E s := by
  refine callType_new F.called_zip (by decide) (F.typeCall_zip_2 _ _) (F.newCall_zip_2 _ _) (fun obj => F.args_object_init_3 obj _ _) F.entry_zip_new (zip_newX h1 h2) ⟨q1, q2, ?_⟩
  generalize en : s.heap.objs.size = n at h ⊢
  have z1 : (zh1 s.heap o1).objs.size = n + 1 := by rw [Heap.size_push, en]
  have z2 : (zh2 s.heap o1 o2).objs.size = n + 2 := by rw [Heap.size_push, z1]
  have z3 : (zh3 s.heap o1 o2).objs.size = n + 3 := by rw [Heap.size_push, z2]
  have z4 : (zh4 s.heap o1 o2).objs.size = n + 4 := by rw [Heap.size_push, z3]
  have g1 : (zh5 s.heap o1 o2).get? s.heap.objs.size = some o1 := Heap.get?_push_of_some _ (Heap.get?_push_of_some _ (Heap.get?_push_of_some _ (Heap.get?_push_of_some _ (Heap.get?_push_size _ f1))))
  have g2 : (zh5 s.heap o1 o2).get? (zh1 s.heap o1).objs.size = some o2 := Heap.get?_push_of_some _ (Heap.get?_push_of_some _ (Heap.get?_push_of_some _ (Heap.get?_push_size _ f2)))
  have g3 : (zh5 s.heap o1 o2).get? (zh2 s.heap o1 o2).objs.size = some _ := Heap.get?_push_of_some _ (Heap.get?_push_of_some _ (Heap.get?_push_size _ rfl))
  have g4 : (zh5 s.heap o1 o2).get? (zh3 s.heap o1 o2).objs.size = some _ := Heap.get?_push_of_some _ (Heap.get?_push_size _ rfl)
  have g5 : (zh5 s.heap o1 o2).get? (zh4 s.heap o1 o2).objs.size = some _ := Heap.get?_push_size _ rfl
  have k5 : ∀ c o, s.heap.get? c = some o → (zh5 s.heap o1 o2).get? c = some o := fun c o e => Heap.get?_push_of_some _ (Heap.get?_push_of_some _ (Heap.get?_push_of_some _ (Heap.get?_push_of_some _ (Heap.get?_push_of_some _ e))))
  rw [z4, z2, z3] at g5
  rw [z2, z1, en] at g3
  rw [z3] at g4
  rw [z1] at g2
  rw [en] at g1
  show _ ∧ _
  rw [z4]
  exact ⟨⟨_, g5, rfl⟩, h _ n rfl g5 g3 g4 g1 g2 k5⟩
end
def iZipX (K : PySem.W.Frag) (ta : TA) : TI := fun σ H Rr => ta σ H fun vs H1 => ∃ S R : ZS, vs = [S.val, R.val] ∧ S.ok K H1 ∧ R.ok K H1 ∧ Rr (Itp K S R) H1
theorem pi_zipX {X : Cx} {elts : List Expr} {kk : Nat} {tpos : Pos} {a b : Expr} {ta : TA} {p pos : Pos} (hg : Gl X "zip") (hm : X.mg "zip" = none) (ha : PA X [a, b] ta) (hs : starEach [a, b] X.env = [(false, eval a X.env), (false, eval b X.env)] := by rfl) (hs2 : starEach [b] X.env = [(false, eval b X.env)] := by rfl) :
    PI X (.Tuple elts kk tpos) (.Call (.Name "zip" p) [a, b] [] pos) (iZipX X.K ta) := by
  intro pins s σ H Rr I h
  refine Call_ (ld_blt I hg hm PyProof.Rows.boot_zip (PyProof.Rows.callWith_type1 (thn (ha pos pins s σ H _ I h) fun us s1 ⟨vs, H1, I1, r1, q1⟩ => ?_) (by rw [hs, hs2]) (by rw [hs2]; rfl)))
  obtain ⟨S, R, e, hS, hR, q⟩ := q1
  subst e
  obtain ⟨u, u2, e, ru, ru2⟩ := vals2 r1
  subst e
  obtain ⟨o1, p1, t1, c1, f1, d1⟩ := ZS.itO I1 ru hS
  obtain ⟨o2, p2, t2, c2, f2, d2⟩ := ZS.itO I1 ru2 hR
  refine call_zipX t1 t2 c1 c2 f1 f2 fun h1 n en b1 b2 b3 b4 b5 b7 => ?_
  refine wpAny_pyIter_zip b1 ?_
  refine ⟨n + 4, [n + 4, n + 2, n + 3, n, n + 1], _, _, H1, rfl, I1.kept (t' := s1.toks) b7, turn_zipX S R _ _ _ _ _ ?_, ⟨b1, b2, ⟨_, _, b3⟩, d1 _ _ b4, d2 _ _ b5⟩, fun c hc => ?_, q⟩
  · constructor <;> first | exact Nat.ne_of_lt (by omega) | exact Nat.ne_of_gt (by omega)
  · have hb' : s1.heap.objs.size ≤ c := by
      rw [← en]
      simp only [List.mem_cons, List.mem_nil_iff, or_false] at hc
      rcases hc with z | z | z | z | z <;> (rw [z]; first | exact Nat.le_add_right _ _ | exact Nat.le_refl _)
    exact I1.fpOk hb' (I1.hok.fresh hb')
section
variable {K : PySem.W.Frag} {lσ : St} {tc : TT} {te : TE} {H1 : Hp} {Q : VK}
theorem comp_pairs {S R : ZS} {n i0 j0 : Nat} (fx fy : Nat → V) (f : Nat → Option V) (hz : n ≤ sizeLine) (hx : ∀ i H, Same H1 H → i < n → S.at' K i H (fx i) ∧ R.at' K i H (fy i)) (he : ∀ H, Same H1 H → (Itp K S R).stop n H)
    (hs : ∀ i, i < n → Gv tc te ((lσ.set i0 (some (fx i))).set j0 (some (fy i))) H1 (f i))
    (hd : ∀ D H', Same H1 H' → H1 D = none → H' D = some (.lst ((List.range n).filterMap f)) → Q (.ref D) H') : CompV (Itp K S R) lσ (gPair K i0 j0) tc te H1 Q := by
  refine compW_of f hz (fun i H s hi => ⟨_, _, hx i H s hi⟩) he (fun i hi H k s hk x H' y => ?_) hd
  obtain ⟨T, x, z, rfl, hT, rfl, e1, e2⟩ := y
  obtain ⟨a1, a2⟩ := hx i H s hi
  obtain rfl := e1 _ a1
  obtain rfl := e2 _ a2
  have s2 : Same H (upd H T (.tup [fx i, fy i])) := (Same.refl H).upd hT
  exact gPair_of (.of upd_same) (hs i hi _ k (s.trans s2) fun H' s' => hk H' (s2.trans s'))
/-- a text and a list, alike long -/
theorem comp_zipTL {x : Str} {b : Addr} {ys : List V} {i0 j0 : Nat} (f : Nat → Option V) (hq : SqL K H1 b ys) (hl : x.length = ys.length) (hz : ys.length ≤ sizeLine)
    (hs : ∀ i c y, x.cps.toList[i]? = some c → ys[i]? = some y → Gv tc te ((lσ.set i0 (some (.str ⟨#[c]⟩))).set j0 (some y)) H1 (f i))
    (hd : ∀ D H', Same H1 H' → H1 D = none → H' D = some (.lst ((List.range ys.length).filterMap f)) → Q (.ref D) H') : CompV (Itp K (.t x) (.l b)) lσ (gPair K i0 j0) tc te H1 Q := by
  have e1 : ∀ i, i < ys.length → x.cps.toList[i]? = some ((x.cps.toList[i]?).getD 0) := fun i hi => by
    have : i < x.cps.toList.length := by
      rw [← hl] at hi
      exact hi
    rw [List.getElem?_eq_getElem this]
    rfl
  have e2 : ∀ i, i < ys.length → ys[i]? = some ((ys[i]?).getD .non) := fun i hi => by simp [hi]
  refine comp_pairs (fun i => .str ⟨#[(x.cps.toList[i]?).getD 0]⟩) (fun i => (ys[i]?).getD .non) f hz (fun i H s hi => ⟨⟨_, e1 i hi, rfl⟩, ys, s.seq hq, e2 i hi⟩) (fun H s => .inl ⟨hl, _, ys, s.seq hq, rfl⟩) (fun i hi => hs i _ _ (e1 i hi) (e2 i hi)) hd
end
section
variable {K : PySem.W.Frag} {g : TG} {tb : TS} {D : Ends} {σ : St} {H : Hp}
theorem for_itW {J : It} {n : Nat} (Pv : Nat → St → Hp → Prop) (h0 : Pv 0 σ H) (hgo : ∀ i σ H, i < n → Pv i σ H → J.go i H) (hst : ∀ σ H, Pv n σ H → J.stop n H)
    (hs : ∀ i x σ H H', i < n → Pv i σ H → J.yld i H x H' → g x σ H' fun σ2 H2 => tb { D with nx := Pv (i + 1), ct := Pv (i + 1), bk := D.nx } σ2 H2) (hd : ∀ σ H, Pv n σ H → D.nx σ H) : ForW J g tb D σ H := by
  refine ⟨fun i m σ H => m = n - i ∧ i ≤ n ∧ Pv i σ H, ⟨n, by simp, Nat.zero_le _, h0⟩, ?_⟩
  rintro i m σ H ⟨rfl, hi, p⟩
  by_cases hlt : i < n
  · exact .inr ⟨hgo i σ H hlt p, Pv (i + 1), fun σ' H' p' => ⟨n - (i + 1), by omega, rfl, hlt, p'⟩, fun x H' y => hs i x σ H H' hlt p y⟩
  · have e : i = n := by omega
    subst e
    exact .inl ⟨hst σ H p, hd σ H p⟩
/-- over the pairs of two lists, alike long -/
theorem for_zipW {a b : Addr} {xs ys : List V} {i0 j0 : Nat} (hl : xs.length = ys.length) (Pv : Nat → St → Hp → Prop) (h0 : Pv 0 σ H) (hq : ∀ i σ H, i ≤ xs.length → Pv i σ H → SqL K H a xs ∧ SqL K H b ys)
    (hs : ∀ i x y σ H H', xs[i]? = some x → ys[i]? = some y → Pv i σ H → Same H H' → tb { D with nx := Pv (i + 1), ct := Pv (i + 1), bk := D.nx } ((σ.set i0 (some x)).set j0 (some y)) H') (hd : ∀ σ H, Pv xs.length σ H → D.nx σ H) :
    ForW (Itz K a b) (gPair K i0 j0) tb D σ H := by
  refine for_itW Pv h0 (fun i σ H hi p => ?_) (fun σ H p => ?_) (fun i x σ H H' hi p y => ?_) hd
  · obtain ⟨q1, q2⟩ := hq i σ H (Nat.le_of_lt hi) p
    exact ⟨xs, ys, xs[i], ys[i], q1, q2, by simp [hi], by simp [hl ▸ hi]⟩
  · obtain ⟨q1, q2⟩ := hq _ σ H (Nat.le_refl _) p
    exact ⟨xs, ys, q1, q2, .inl (Nat.le_refl _)⟩
  · obtain ⟨q1, q2⟩ := hq i σ H (Nat.le_of_lt hi) p
    obtain ⟨T, x, z, rfl, hT, rfl, hx⟩ := y
    obtain ⟨e1, e2⟩ := hx xs ys q1 q2
    exact gPair_of (.of upd_same) (hs i x z σ H _ e1 e2 p ((Same.refl H).upd hT))
end
end L2
namespace Wa
open PySem PySem.Spec PyProof.Rows
section
variable {κ : Type} [DecidableEq κ]
end
section
variable {prog : Program} {w : World} {κ : Type} [DecidableEq κ] {knd : KeyKind prog w κ}
def SetK (knd : KeyKind prog w κ) (h : Heap) (a : Addr) (ks : List κ) : Prop := h.SetOf knd a (fun k => decide (k ∈ ks)) ks.length
theorem SetK.keep {h h' : Heap} {a : Addr} {ks : List κ} (S : SetK knd h a ks) (k : ∀ o, h.get? a = some o → h'.get? a = some o) : SetK knd h' a ks :=
  let ⟨o, es, ep, t, ho, r⟩ := S; ⟨o, es, ep, t, k o ho, r⟩
theorem SetK.fresh {h : Heap} {a : Addr} (ho : h.get? a = some (freshSet w)) : SetK knd h a [] :=
  ⟨_, #[], 0, _, ho, ⟨rfl, rfl, rfl⟩, rfl, fun e he => by simp at he, fun k => by simp, by show 0 < scanBound; decide, rfl, rfl⟩
variable {A : Around} {E : Value → Shared → Prop} {s : Shared}
end
end Wa
namespace L2
open PySem PySem.Spec PyProof.Rows
section
variable {X : Cx} {κ : Type} [DecidableEq κ]
end
end L2
namespace L2
open PySem PySem.Spec PyProof.Rows
section
variable {X : Cx}
/-- range(n) as an object -/
theorem call_range1v : CallR X (.type "range") (fun xs H Q => ∃ n, xs = [.int n] ∧ ∀ r, H r = none → Q (.ref r) (upd H r (RngO 0 n 1 r))) := by
  intro pins s σ H xs us Q I r h
  obtain ⟨n, rfl, q⟩ := h
  obtain ⟨u, rfl, t, rfl⟩ := vals1 r
  refine call_range_1 ?_
  have hn := IsRange.new s.heap 0 n 1 s.toks t (s.toks + 1)
  exact ⟨.ref s.heap.objs.size, _, I.laid (t' := s.toks + 1 + 1) (o := RngO 0 n 1 s.heap.objs.size) (fun b ob z => Heap.get?_push_of_some _ z) (Nat.le_refl _) ⟨⟨_, _, _, hn⟩, ⟨_, hn⟩, fun h1 h2 ⟨x, y, z, e⟩ k => ⟨x, y, z, k _ e⟩⟩, rfl, q _ (I.hok.fresh (Nat.le_refl _))⟩
end
end L2
namespace L2
open PySem PySem.Spec PyProof.Rows
/-- (0, first sign), (1, second one), .. -/
def Itu (x : Str) : It :=
  ⟨fun i _ => i < x.length, fun i H y H' => ∃ T c, y = .ref T ∧ H T = none ∧ H' = upd H T (.tup [.int i, .str ⟨#[c]⟩]) ∧ x.cps.toList[i]? = some c, fun i _ => i = x.length⟩
theorem turn_enumT {P : Program} {w : World} {K : PySem.W.Frag} {elts : List Expr} {kk : Nat} {pos : Pos} (x : Str) (e it : Addr) (hne : e ≠ it) :
    Turn P w K (.Tuple elts kk pos) (Itu x) [e, it] e (fun i h => (∃ old, IsEnum h e it i old) ∧ (ZS.t x).st it i h) where
  mem := by simp
  obj := fun i h st b hb => by
    obtain ⟨⟨old, st1⟩, st2⟩ := st
    rcases List.mem_cons.mp hb with z | z
    · rw [z]; exact ⟨_, st1, fun v q => by cases q⟩
    · rw [List.mem_singleton.mp z]
      obtain ⟨o, e2, d, _⟩ := ZS.st_obj st2
      exact ⟨o, e2, d⟩
  keep := fun i h h' st k => ⟨let ⟨old, q⟩ := st.1; ⟨old, k e (by simp) _ q⟩, ZS.st_at st.2 fun o q => k it (by simp) o q⟩
  item := by
    intro X hP hw hK hc i pins s σ H E I hf st hg
    subst hP hw hK
    have hi : i < x.cps.toList.length := hg
    obtain ⟨⟨old, se⟩, si⟩ := id st
    have hx : (ZS.t x).at' X.K i H (.str ⟨#[x.cps.toList[i]]⟩) := ⟨_, List.getElem?_eq_getElem hi, rfl⟩
    obtain ⟨n, Pi, Si, fi, D, qi, li, ri⟩ := ZS.item I si hx
    have hef : e ∉ fi := fun z => by
      rcases D.fp e z with q | ⟨its, o, eo, cl, _⟩
      · exact hne q
      · rw [show s.heap.get? e = _ from se] at eo
        cases eo
        exact absurd (show Value.type "enumerate" = .type "list" from cl) (by decide)
    refine wpAny_pyNext_enum_itemD (D.dr _ (I.ok.hd hc)) se qi li hne hef fun v h1 tk a0 a1 a2 a3 a4 a5 => ?_
    have ne : ∀ b ∈ [e, it], b ≠ s.heap.objs.size := fun b hb => by
      rcases List.mem_cons.mp hb with z | z
      · rw [z]; exact Nat.ne_of_lt (Heap.lt_size se)
      · obtain ⟨o, q, _⟩ := ZS.st_obj si
        rw [List.mem_singleton.mp z]; exact Nat.ne_of_lt (Heap.lt_size q)
    have I1 : Inv X pins σ (upd H s.heap.objs.size (.tup [.int i, .str ⟨#[x.cps.toList[i]]⟩])) { s with heap := h1, toks := tk + 1 } :=
      I.turnLay hf (fun b o hb q => a5 b o (fun z => hb (by simp [z])) (fun z => hb (by simp [z])) q) (Nat.le_refl _) ⟨two_le, [.int i tk, v], .cons ⟨_, rfl⟩ (.cons (ri v a0) .nil), ⟨_, a3, rfl, _, rfl⟩⟩
    have f1 : ∀ b ∈ [e, it], FpOk X pins (upd H s.heap.objs.size (.tup [.int i, .str ⟨#[x.cps.toList[i]]⟩])) b := fun b hb => ⟨by rw [upd_ne (ne b hb)]; exact (hf b hb).1, (hf b hb).2⟩
    refine ⟨_, rfl, wpAny_letOwnedTupleGo_enum a1 fun h2 b1 b2 => ?_⟩
    have I2 : Inv X pins σ (upd H s.heap.objs.size (.tup [.int i, .str ⟨#[x.cps.toList[i]]⟩])) { s with heap := h2, toks := tk + 1 } :=
      I1.turnedN (s := { s with heap := h1, toks := tk + 1 }) (t' := tk + 1) (ch := [e]) (fun b hb => f1 b (by rw [List.mem_singleton.mp hb]; simp)) fun b o hb q => (b2.2 b (fun z => hb (by simp [z]))).trans q
    exact ⟨.ref s.heap.objs.size, _, I2, rfl, ⟨_, _, rfl, I.hok.fresh (Nat.le_refl _), rfl, List.getElem?_eq_getElem hi⟩, ⟨⟨_, b1⟩, ZS.st_at (D.st _ _ a2) fun o q => (b2.2 it (Ne.symm hne)).trans q⟩, fun b hb => (f1 b hb).1⟩
  done := by
    intro X hP hw hK hc i pins s σ H E I hf st hg
    subst hP hw hK
    have hi : x.length = i := hg.symm
    obtain ⟨⟨old, se⟩, si⟩ := id st
    obtain ⟨Pi, Si, fi, D, qi⟩ := ZS.stop I si (show (ZS.t x).len X.K i H from hi)
    exact wpAny_pyNext_enum_endD (D.dr _ (I.ok.hd hc)) se qi fun h1 eb => ⟨rfl, I.turnedN (t' := s.toks) (ch := [it]) (fun b hb => hf b (by rw [List.mem_singleton.mp hb]; simp)) fun b o hb q => eb b o (fun z => hb (by simp [z])) q⟩
  self := fun _ _ _ _ _ st h => let ⟨_, q⟩ := st.1; wpAny_pyIter_enum q h
def iEnumT (ta : TA) : TI := fun σ H R => ta σ H fun vs H1 => ∃ x, vs = [.str x] ∧ R (Itu x) H1
theorem pi_enumT {X : Cx} {elts : List Expr} {kk : Nat} {tpos : Pos} {a : Expr} {ta : TA} {p pos : Pos} (hg : Gl X "enumerate") (hm : X.mg "enumerate" = none) (ha : PA X [a] ta) (hs : starEach [a] X.env = [(false, eval a X.env)] := by rfl) :
    PI X (.Tuple elts kk tpos) (.Call (.Name "enumerate" p) [a] [] pos) (iEnumT ta) := by
  intro pins s σ H R I h
  refine Call_ (ld_blt I hg hm PyProof.Rows.boot_enumerate (PyProof.Rows.callWith_type1 (thn (ha pos pins s σ H _ I h) fun us s1 ⟨vs, H1, I1, r1, q1⟩ => ?_) hs rfl))
  obtain ⟨x, e, q⟩ := q1
  subst e
  obtain ⟨u, rfl, t, rfl⟩ := vals1 r1
  refine call_enumerate_str fun h1 b1 b2 b3 b4 => ?_
  refine wpAny_pyIter_enum b1 ?_
  refine ⟨s1.heap.objs.size + 1, [s1.heap.objs.size + 1, s1.heap.objs.size], _, _, H1, rfl, I1.kept (t' := s1.toks) b4, turn_enumT x _ _ (Nat.ne_of_gt (Nat.lt_succ_self _)), ⟨⟨_, b1⟩, ⟨t, b2⟩⟩, fun b hb => ?_, q⟩
  have hb' : s1.heap.objs.size ≤ b := by
    rcases List.mem_cons.mp hb with z | z
    · rw [z]; exact Nat.le_succ _
    · rw [List.mem_singleton.mp z]; exact Nat.le_refl _
  exact I1.fpOk hb' (I1.hok.fresh hb')
/-- over enumerate(text) -/
theorem for_enumTW {K : PySem.W.Frag} {tb : TS} {D : Ends} {σ : St} {H : Hp} {x : Str} {i0 j0 : Nat} (Pv : Nat → St → Hp → Prop) (h0 : Pv 0 σ H)
    (hs : ∀ (i : Nat) c σ H H', x.cps.toList[i]? = some c → Pv i σ H → Same H H' → tb { D with nx := Pv (i + 1), ct := Pv (i + 1), bk := D.nx } ((σ.set i0 (some (.int i))).set j0 (some (.str ⟨#[c]⟩))) H') (hd : ∀ σ H, Pv x.length σ H → D.nx σ H) :
    ForW (Itu x) (gPair K i0 j0) tb D σ H := by
  refine for_itW Pv h0 (fun i σ H hi p => hi) (fun σ H p => rfl) (fun i y σ H H' hi p q => ?_) hd
  obtain ⟨T, c, rfl, hT, rfl, hc⟩ := q
  exact gPair_of (.of upd_same) (hs i c σ H _ hc p ((Same.refl H).upd hT))
end L2
namespace L2
open PySem PySem.Spec PyProof.Rows
/-- no object of the class is untrue -/
structure Tru (K : PySem.W.Frag) (C : Addr) : Prop where
  b : PySem.W.findIn K (.ref C) "__bool__" = some none
  l : PySem.W.findIn K (.ref C) "__len__" = some none
section
variable {X : Cx} {a b : Expr} {rest : List Expr} {ta tb : TE} {pos : Pos}
def tOrO (K : PySem.W.Frag) (ta tb : TE) : TE := fun σ H Q => ta σ H fun x H1 => (x = .non ∧ tb σ H1 Q) ∨ ∃ D C dx fs, x = .ref D ∧ H1 D = some (.ins C dx fs) ∧ Tru K C ∧ Q (.ref D) H1
theorem pe_orO (ha : PE X a ta) (hb : PE X (.BoolOp .Or (b :: rest) pos) tb) : PE X (.BoolOp .Or (a :: b :: rest) pos) (tOrO X.K ta tb) := by
  intro pins s σ H Q I h
  refine BoolOp_or (thn (ha pins s σ H _ I h) fun v s1 ⟨x, H1, I1, r1, q1⟩ => ?_)
  rcases q1 with ⟨rfl, q1⟩ | ⟨D, C, dx, fs, rfl, e, tr, q1⟩
  · cases r1
    exact truthy_none (hb pins s1 σ H1 Q I1 q1)
  · obtain rfl : v = Value.ref D := r1
    obtain ⟨mA, O, _⟩ := ins_get I1.hok e
    obtain ⟨od, J, _⟩ := O.look
    obtain ⟨m, F⟩ := I1.fr
    exact PySem.W.truthy_K0 F I1.ok.mod.kin J tr.b tr.l ⟨.ref D, H1, I1, rfl, q1⟩
end
end L2
namespace L2
open PySem PySem.Spec PyProof.Rows
theorem mx_args (a d : Value) : argsOk "max" ⟨[a], [(Str.ofString "default", d)]⟩ := by (unfold argsOk; kernel_rfl)
section
variable {P : Program} {w : World} {A : Around} {R : Result → Shared → Prop} {it S : Addr} {fp wr : List Addr} {n : Nat} {Vp : Nat → Value → Prop} {St : Nat → Heap → Prop} {kw : List (Str × Value)}
theorem mx_name : (toString "max" ++ toString ".loop" : String) = "max.loop" := by decide
/-- the best so far stands twice in the list at S -/
theorem mx_loop (W : Walks P w A.in1 it fp wr n Vp St) (bt : Nat → Nat → Bool) (hc : CmpOf P w A.in1 .Gt Vp bt) (hS : S ∉ fp) :
    ∀ (k j : Nat) (s : Shared) (b : Value) (c : Nat), n - (j + 1) = k → j + 1 ≤ n → St (j + 1) s.heap → Vp (argBest bt j) b → s.heap.get? S = some { cls := .type "list", dict := none, data := .seq #[b, b] c, slots := #[] } →
      (∀ v h' tk, Vp (argBest bt (n - 1)) v → (∀ d o, d ∉ wr → d ≠ S → s.heap.get? d = some o → h'.get? d = some o) → R (.ok (.ret v)) { s with heap := h', toks := tk }) →
        codeAny (model P w) A (.builtin "max.loop" ⟨[.ref it, .none, .ref S], kw⟩) R s := by
  have nw : S ∉ wr := fun z => hS (W.sub _ z)
  intro k
  induction k with
  | zero =>
    intro j s b c e1 e2 st vb eS fin
    have en : j + 1 = n := by omega
    refine codeAny_builtin F.entry_max_loop ?_
    rw [Around.under_plainId F.plain_max_loop]
    show wpAny _ A.in1 (seqItems? (.ref S) >>= _) _ _ _
    refine wpAny_bind (wpAny_seqItems eS rfl ?_)
    show wpAny _ A.in1 (tryCatch (pyNext (.ref it)) _ >>= _) _ _ _
    refine wpAny_bind (wpAny_tryCatch (W.done s _ _ (en ▸ st) fun h1 t1 keep => ?_))
    show wpAny _ A.in1 (updateSeq S (fun _ => #[]) >>= _) _ _ _
    refine wpAny_bind (wpAny_updateSeq (keep S _ nw eS) rfl (wpAny_bind (wpAny_letGo (wpAny_pure (fin b _ t1 (by rw [← en]; exact vb) fun d o z1 z2 q => ?_)))))
    rw [Heap.get?_update_other _ _ (Ne.symm z2)]
    exact keep d o z1 q
  | succ k ih =>
    intro j s b c e1 e2 st vb eS fin
    have lt : j + 1 < n := by omega
    refine codeAny_builtin F.entry_max_loop ?_
    rw [Around.under_plainId F.plain_max_loop]
    show wpAny _ A.in1 (seqItems? (.ref S) >>= _) _ _ _
    refine wpAny_bind (wpAny_seqItems eS rfl ?_)
    show wpAny _ A.in1 (tryCatch (pyNext (.ref it)) _ >>= _) _ _ _
    refine wpAny_bind (wpAny_tryCatch (W.item (j + 1) s _ _ lt st fun v h1 t1 pv st1 keep => ?_))
    have eS1 := keep S _ nw eS
    show wpAny _ A.in1 (tryCatch (holding [v, v] (richCompare .Gt v b >>= _)) _ >>= _) _ _ _
    refine wpAny_bind (wpAny_tryCatch (wpAny_holding (wpAny_bind (hc (j + 1) (argBest bt j) v b _ _ _ pv vb (wpAny_bind (wpAny_holding (wpAny_truthy_bool (wpAny_bind (wpAny_letGo (wpAny_pure ?_))))))))))
    cases hb : bt (j + 1) (argBest bt j) with
    | true =>
      rw [if_pos rfl]
      refine wpAny_bind (wpAny_updateSeq eS1 rfl (wpAny_bind (wpAny_letGo ?_)))
      rw [mx_name]
      refine wpAny_pure ⟨plainId_quiet F.plain_max_loop _, ih (j + 1) _ v _ (by omega) lt (W.frame _ _ _ st1 fun d hd o q => ?_) (by rw [argBest, hb, if_pos rfl]; exact pv) (Heap.get?_update_self _ eS1 rfl) fun v2 h2 t2 p2 keep2 => ?_⟩
      · rw [Heap.get?_update_other _ _ (fun z : S = d => hS (by rw [z]; exact hd))]
        exact q
      · refine fin v2 h2 t2 p2 fun d o z1 z2 q => keep2 d o z1 z2 ?_
        rw [Heap.get?_update_other _ _ (Ne.symm z2)]
        exact keep d o z1 q
    | false =>
      rw [if_neg Bool.false_ne_true]
      refine wpAny_bind (wpAny_letGo ?_)
      rw [mx_name]
      exact wpAny_pure ⟨plainId_quiet F.plain_max_loop _, ih (j + 1) _ b c (by omega) lt st1 (by rw [argBest, hb, if_neg Bool.false_ne_true]; exact vb) eS1 fun v2 h2 t2 p2 keep2 => fin v2 h2 t2 p2 fun d o z1 z2 q => keep2 d o z1 z2 (keep d o z1 q)⟩
/-- from the empty list at S on -/
theorem mx_first (W : Walks P w A.in1 it fp wr n Vp St) (bt : Nat → Nat → Bool) (hc : CmpOf P w A.in1 .Gt Vp bt) (hS : S ∉ fp) {s : Shared} {c : Nat} {d : Value} {x : Str} (st : St 0 s.heap) (eS : s.heap.get? S = some { cls := .type "list", dict := none, data := .seq #[] c, slots := #[] })
    (fin : ∀ v h' tk, (n = 0 ∧ v = d ∨ 0 < n ∧ Vp (argBest bt (n - 1)) v) → (∀ e o, e ∉ wr → e ≠ S → s.heap.get? e = some o → h'.get? e = some o) → R (.ok (.ret v)) { s with heap := h', toks := tk }) :
    codeAny (model P w) A (.builtin "max.loop" ⟨[.ref it, .none, .ref S], [(x, d)]⟩) R s := by
  have nw : S ∉ wr := fun z => hS (W.sub _ z)
  refine codeAny_builtin F.entry_max_loop ?_
  rw [Around.under_plainId F.plain_max_loop]
  show wpAny _ A.in1 (seqItems? (.ref S) >>= _) _ _ _
  refine wpAny_bind (wpAny_seqItems eS rfl ?_)
  show wpAny _ A.in1 (tryCatch (pyNext (.ref it)) _ >>= _) _ _ _
  by_cases hn : n = 0
  · refine wpAny_bind (wpAny_tryCatch (W.done s _ _ (hn ▸ st) fun h1 t1 keep => ?_))
    show wpAny _ A.in1 (rule _ >>= _) _ _ _
    exact wpAny_bind (wpAny_rule (wpAny_pure (fin d h1 t1 (.inl ⟨hn, rfl⟩) fun e o z1 _ q => keep e o z1 q)))
  · refine wpAny_bind (wpAny_tryCatch (W.item 0 s _ _ (Nat.pos_of_ne_zero hn) st fun v h1 t1 pv st1 keep => ?_))
    have eS1 := keep S _ nw eS
    show wpAny _ A.in1 (updateSeq S (fun _ => #[v, v]) >>= _) _ _ _
    refine wpAny_bind (wpAny_updateSeq eS1 rfl ?_)
    rw [mx_name]
    refine wpAny_pure ⟨plainId_quiet F.plain_max_loop _, mx_loop W bt hc hS _ 0 _ v _ rfl (Nat.pos_of_ne_zero hn) (W.frame _ _ _ st1 fun e he o q => ?_) pv (Heap.get?_update_self _ eS1 rfl) fun v2 h2 t2 p2 keep2 => ?_⟩
    · rw [Heap.get?_update_other _ _ (fun z : S = e => hS (by rw [z]; exact he))]
      exact q
    · refine fin v2 h2 t2 (.inr ⟨Nat.pos_of_ne_zero hn, p2⟩) fun e o z1 z2 q => keep2 e o z1 z2 ?_
      rw [Heap.get?_update_other _ _ (Ne.symm z2)]
      exact keep e o z1 q
end
section
variable {P : Program} {w : World} {A : Around} {E : Value → Shared → Prop} {s : Shared} {l : Addr} {xs : Array (Int × Tok)}
theorem max_dflt {Q : Value → Shared → Prop} {d : Value} (hh : A.handled = none) (hl : s.heap.IsList l (intItems xs))
    (h : ∀ v h' tk, (xs.size = 0 ∧ v = d ∨ 0 < xs.size ∧ (intItems xs)[argBest (fun i j => decide (numAt xs i > numAt xs j)) (xs.size - 1)]? = some v) → (∀ b o, s.heap.get? b = some o → h'.get? b = some o) → Q v { s with heap := h', toks := tk }) :
    wpAny (model P w) A (call (.builtin "max") [.ref l] [(Str.ofString "default", d)]) Q E s := by
  refine wpAny_call (codeAny_call_builtin F.plain_max F.entry_max ?_)
  have ck : checkBuiltinCall "max" ⟨[.ref l], [(Str.ofString "default", d)]⟩ = pure () := by
    have ok := mx_args (.ref l) d
    unfold argsOk at ok
    simp only [checkBuiltinCall, F.kind_max]
    cases hs : Manifest.signature? "max" with
    | none => rfl
    | some sig =>
      rw [hs] at ok
      exact ok
  rw [ck]
  refine wpAny_pure ?_
  show wpAny _ A.in1 (Builtin.Builtins.bindParams "max" ["key", "default"] 0 ⟨[], [(Str.ofString "default", d)]⟩ >>= _) _ _ _
  refine wpAny_bind (wpAny_of_eq (show Builtin.Builtins.bindParams "max" ["key", "default"] 0 ⟨[], [(Str.ofString "default", d)]⟩ = pure [none, some d] from rfl) (wpAny_bind (wpAny_pure (wpAny_bind ?_))))
  refine iter_intList hl fun s2 e2 st lt ne => ?_
  subst e2
  refine wpAny_bind (wpAny_newObj_type ?_)
  rw [mx_name]
  refine wpAny_pure ⟨plainId_quiet F.plain_max_loop _, ?_⟩
  have W := Walks.list (prog := P) (w := w) (A := A.in1) hh s.heap.objs.size l ne (intItems xs)
  refine mx_first W _ (CmpOf.ints_gt (numAt xs) fun _ _ => intItems_at) (fun z => Nat.lt_irrefl _ (lt _ z)) (W.frame _ _ _ st fun b _ o q => Heap.get?_push_of_some _ q) (Heap.get?_push_size _ rfl) fun v h' tk hv keep => ?_
  refine h v h' tk (by simpa [intItems] using hv) fun b o q => ?_
  have z := Heap.lt_size q
  refine keep b o (fun zb => ?_) (fun zb => ?_) (Heap.get?_push_of_some _ (Heap.get?_push_of_some _ q))
  · rw [List.mem_singleton.mp zb] at z
    exact Nat.lt_irrefl _ z
  · have z3 : b = s.heap.objs.size + 1 := zb.trans (Heap.size_push ..)
    rw [z3] at z
    exact absurd z (Nat.not_lt.mpr (Nat.le_succ _))
end
end L2
namespace L2
open PySem PySem.Spec PyProof.Rows
theorem boot_max : bootBuiltins "max" = some (.builtin "max") := by decide +kernel
/-- the greatest of them, or d -/
def MaxOf (ns : List Int) (d m : Int) : Prop := (ns = [] ∧ m = d) ∨ (m ∈ ns ∧ ∀ x ∈ ns, x ≤ m)
section
variable {X : Cx} {a : Expr} {ta : TA} {p pos kp cp : Pos} {d : Int} {jk : Nat}
def tMaxD (K : PySem.W.Frag) (d : Int) (ta : TA) : TE := fun σ H Q => ta σ H fun vs H1 => ∃ l, ∃ ns : List Int, vs = [.ref l] ∧ SqL K H1 l (ns.map V.int) ∧ ∀ m, MaxOf ns d m → Q (.int m) H1
theorem pe_maxD (hc : X.calm = true) (hg : Gl X "max") (hm : X.mg "max" = none) (ha : PA X [a] ta) (hs : starEach [a] X.env = [(false, eval a X.env)] := by rfl) :
    PE X (.Call (.Name "max" p) [a] [⟨some "default", .Constant (.int d) jk cp, kp⟩] pos) (tMaxD X.K d ta) := by
  intro pins s σ H Q I h
  refine wpAny_Call_Name_kw (ld_blt I hg hm boot_max ?_)
  refine callWith_kw (thn (ha pos pins s σ H _ I h) fun us s1 ⟨vs, H1, I1, r1, q1⟩ => ?_) (by rw [hs]; rfl) (by rw [hs]; rfl)
  obtain ⟨l, ns, e, hl, q⟩ := q1
  subst e
  obtain ⟨u, rfl, ru⟩ := vals1 r1
  obtain rfl : u = Value.ref l := ru
  refine kws_cons (wpAny_Constant_int (kws_nil ?_))
  show wpAny _ _ (call (.builtin "max") [.ref l] [(Str.ofString "default", _)]) _ _ _
  obtain ⟨its, rv, pl, hz⟩ := I1.list hl
  have hi : IntsAre its ns := intsAre_of rv
  obtain ⟨xs, e⟩ := hi.allInts.items
  have hns : ns = xs.toList.map (·.1) := by
    have h1 := hi.numsOf
    have h2 := nums_intItems xs
    rw [← e] at h2
    exact h1.symm.trans h2
  have hl2 := pl.isList
  rw [e] at hl2
  have I2 := I1.tok (s1.toks + 1)
  refine max_dflt (s := { s1 with toks := s1.toks + 1 }) (I1.ok.hd hc) hl2 fun v h' tk hv keep => ?_
  have I3 : Inv X pins σ H1 { s1 with heap := h', toks := tk } := I2.kept (s := { s1 with toks := s1.toks + 1 }) keep
  rcases hv with ⟨h0, rfl⟩ | ⟨h0, hv⟩
  · exact ⟨.int d, H1, I3, ⟨_, rfl⟩, q d (.inl ⟨by rw [hns]; simpa using h0, rfl⟩)⟩
  · obtain ⟨t, rfl⟩ := intItems_at hv
    obtain ⟨h1, h2⟩ := argBest_gt (numAt xs) (xs.size - 1)
    refine ⟨.int _, H1, I3, ⟨t, rfl⟩, q _ (.inr ⟨?_, fun x hx => ?_⟩)⟩
    · rw [hns, numAt_eq]
      exact getD_mem (by rw [List.length_map, Array.length_toList]; omega)
    · rw [hns] at hx
      obtain ⟨j, hj, rfl⟩ := mem_getD hx
      rw [List.length_map, Array.length_toList] at hj
      rw [← numAt_eq]
      exact h2 j (by omega)
end
end L2
namespace Wa
open PySem PySem.Spec PyProof.Rows
section
variable {prog : Program} {w : World} {A : Around} {E : Value → Shared → Prop} {s : Shared} {r : Addr} {a b c : Int} {t u v : Tok} {n : Nat}
theorem collect_rng {Q : List Value → Shared → Prop} (hh : A.handled = none) (hr : IsRange s.heap r a b c t u v) (hsm : Builtin.Range.small a b c = true) (hn : Builtin.Range.rangeSize a b c = n) (hlen : n ≤ 2 ^ 24)
    (h : ∀ h' tk (xs : Array Value), (∀ b o, s.heap.get? b = some o → h'.get? b = some o) → s.heap.objs.size < h'.objs.size → ItemsOf (fun i v => ∃ t, v = .int (a + i * c) t) xs n → Q xs.toList { s with heap := h', toks := tk }) :
    wpAny (model prog w) A (collect (.ref r)) Q E s := by
  unfold collect
  refine wpAny_bind (wpAny_runValue (codeAny_builtin PySem.F.entry_proto_collect ?_))
  rw [Around.under_plainId PySem.F.plain_proto_collect _]
  show wpAny _ _ (newList [] >>= fun l => again (.builtin "list.__iadd__" ⟨[l, .ref r], []⟩)) _ _ _
  refine wpAny_bind (wpAny_newObj_type ?_)
  refine wpAny_pure ⟨plainId_quiet PySem.F.plain_list_iadd _, codeAny_builtin PySem.F.entry_list_iadd ?_⟩
  rw [Around.under_plainId PySem.F.plain_list_iadd _]
  have hS : (s.heap.push { cls := .type "list", data := .seq ([] : List Value).toArray } : Heap).get? s.heap.objs.size = some { cls := .type "list", data := .seq #[] } := Heap.get?_push_size _ rfl
  show wpAny _ _ (Builtin.List.listExtendWith (.ref s.heap.objs.size) (.ref r) (.ref s.heap.objs.size)) _ _ _
  refine wpAny_extend_range (R := wants (fun v s' => wpAny (model prog w) A (match v with
      | .ref a => do match (← load a).data with
        | .seq xs _ => pure xs.toList
        | _ => unsupported "internal:collect"
      | _ => unsupported "internal:collect") Q E s') E) (s := { s with heap := s.heap.push { cls := .type "list", data := .seq ([] : List Value).toArray } }) hh (Heap.get?_push_of_some _ hr) hsm hn hlen s.heap.objs.size (.ref s.heap.objs.size) 0 hS fun h' tk xs c' keep eS items => ?_
  show wpAny _ _ (load s.heap.objs.size >>= _) _ _ _
  refine wpAny_bind (wpAny_load eS (wpAny_pure (h h' tk xs (fun b o q => ?_) (Heap.lt_size eS) items)))
  exact keep b o (Nat.ne_of_lt (Heap.lt_size q)) (Heap.get?_push_of_some _ q)
end
end Wa
namespace L2
open PySem PySem.Spec PyProof.Rows
section
variable {X : Cx} {pins : List (Addr × Obj)} {σ : St} {H : Hp} {s : Shared} {h' : Heap} {t' : Nat} {P c : Addr} {lp : Pos} {qn : Str}
/-- the table has got the lambda's code -/
theorem Inv.tabled (I : Inv X pins σ H s) (eP : H P = some (.tbl lp qn)) (hx : Heap.ExtBut P s.heap h') (hc : s.heap.objs.size ≤ c) (rec : h'.CodeRec (.ref c) qn)
    (tab : h'.get? P = some { cls := .none, data := .fields #[rawInt lp.line, rawInt lp.col, .ref c] }) : Inv X pins σ (upd H c (.own P)) { s with heap := h', toks := t' } := by
  have fr : H c = none := I.hok.fresh hc
  have nP : ∀ b, H b = none → b ≠ P := fun b n z => by rw [z, eP] at n; cases n
  have cP : c ≠ P := nP c fr
  have keep : ∀ b o, H b = none → s.heap.get? b = some o → h'.get? b = some o := fun b o n e => hx b o (nP b n) e
  refine I.step (g' := s.gens) (d' := s.drawn) (ch := []) (fun b hb => absurd hb (by simp)) (fun b o _ _ _ e n => keep b o n e) (fun b o _ _ _ e n => ⟨o.slots, keep b o n e⟩) (fun b o _ e n => ?_) (fun b o _ e => ?_) (fun b xs e => ?_) (fun b o u e => ?_) (fun b p q e => ?_) (fun m hm => hm.extBut hx (nP _ I.free)) (fun a o e => ?_) I.bare
  · rw [upd_ne (Nat.ne_of_lt (Nat.lt_of_lt_of_le (Heap.lt_size e) hc))]; exact n
  · by_cases hb : b = P
    · rw [hb]; exact ⟨_, tab⟩
    · exact ⟨o, hx b o hb e⟩
  · rw [upd_ne (ne_of_none e fr)]; exact e
  · rw [upd_ne (ne_of_none e fr)]; exact e
  · rw [upd_ne (ne_of_none e fr)]; exact e
  · by_cases ha : a = c
    · rw [ha, upd_same] at e
      cases e
      obtain ⟨c2, oc, vs, tq, z1, z2, _⟩ := rec
      cases z1
      rw [ha]
      exact ⟨oc, z2⟩
    · rw [upd_ne ha] at e
      by_cases hP : a = P
      · rw [hP, eP] at e
        cases e
        rw [hP]
        exact ⟨_, tab, .inr ⟨c, upd_same, cP, rfl, rec⟩⟩
      · refine (I.hok a o e).stay (fun b u hb q => hx b u ?_ q) (fun b q => by rw [upd_ne (ne_of_none q fr)]; exact q) fun b xs q => by rw [upd_ne (ne_of_none q fr)]; exact q
        rcases hb with z | z
        · rw [z]; exact hP
        · intro z2
          rw [z2, eP] at z
          cases z
/-- what is asked of the def's own code -/
structure LamOk (X : Cx) (P : Addr) : Prop where
  code : ∃ c, X.env.code = .ref c ∧ PySem.W.CodeHd X.base c P
  blt : X.base.BuiltinsAt X.mg P
theorem codeAmong_hit (lp : Pos) (v : Value) : codeAmong lp [rawInt lp.line, rawInt lp.col, v] = some v := by
  simp [codeAmong, rawInt]
theorem triples_one (lp : Pos) (c : Addr) : TriplesOk [rawInt lp.line, rawInt lp.col, .ref c] := trivial
theorem lam_made {A : Around} {E : Value → Shared → Prop} {prm : Arguments} {body : Expr} {scope : Scope} {clos : List (Str × Addr)} {Q : Value → Shared → Prop} (I : Inv X pins σ H s) (L : LamOk X P) (eP : H P = some (.tbl lp qn)) (hq : X.env.qual ++ "<lambda>" = qn)
    (hdef : defaultsOf prm X.env = ([], [])) (hcl : closureFor scope X.env = pure clos)
    (h : ∀ f c pm ctv H' s', Inv X pins σ H' s' → Same H H' → s.heap.objs.size ≤ f → H' f = none → s'.heap.get? f = some (PySem.W.kla_obj "<lambda>" qn prm body scope clos pm c ctv) → s'.heap.CodeRec (.ref c) qn → Q (.ref f) s') :
    wpAny (model X.prog X.w) A (eval (.Lambda prm body scope lp) X.env) Q E s := by
  refine PySem.W.kla_eval hdef ?_
  rw [hq]
  obtain ⟨cd, ecd, C⟩ := L.code
  have C' := C.keeps I.bk
  have hg := I.ok.mod.glob.keeps I.bk
  obtain ⟨ps, e, r⟩ := (show ObjOk X.prog X.w H s.heap P (.tbl lp qn) from I.hok P _ eP)
  have hgP : mainGlobals ≠ P := fun z => by
    obtain ⟨o, es, ep, e2, hd, _⟩ := hg
    rw [z, e] at e2
    cases e2
    cases hd
  obtain ⟨bm, ob, b1, b2, b3, b4, b5, b6⟩ := L.blt
  have B : s.heap.BuiltinsAt X.mg P := ⟨bm, ob, b1, b2, b3, b4, I.bk _ _ b5, b6⟩
  rcases r with r | ⟨c, hc, nc, r, rec⟩
  · subst r
    refine PySem.W.kla_makeFunction (mg := X.mg) hcl I.ok.glob hg ecd C' e trivial rfl hgP B fun c ctv h1 tk hx hge hlt hrec htb => ?_
    have I1 := I.tabled (t' := tk) eP hx hge hrec (by simpa using htb)
    have I2 := I1.kept (h' := h1.push (PySem.W.kla_obj "<lambda>" qn prm body scope clos ((X.mg "__name__").getD .none) c ctv)) (t' := tk) fun b o q => Heap.get?_push_of_some _ q
    have fr : H c = none := I.hok.fresh hge
    have hsz : s.heap.objs.size ≤ h1.objs.size := Nat.le_trans hge (Nat.le_of_lt hlt)
    refine h h1.objs.size c _ ctv _ _ I2 ((Same.refl H).upd fr) hsz ?_ (Heap.get?_push_size _ rfl) (hrec.push _)
    exact I1.hok.fresh (Nat.le_refl _)
  · subst r
    refine PySem.W.kla_makeFunctionHit (mg := X.mg) hcl I.ok.glob hg ecd C' e (triples_one lp c) (codeAmong_hit lp _) B fun ctv h1 tk hk hsz => ?_
    have I1 := I.kept (h' := h1) (t' := tk) hk
    have I2 := I1.kept (h' := h1.push (PySem.W.kla_obj "<lambda>" qn prm body scope clos ((X.mg "__name__").getD .none) c ctv)) (t' := tk) fun b o q => Heap.get?_push_of_some _ q
    refine h h1.objs.size c _ ctv _ _ I2 (Same.refl H) hsz ?_ (Heap.get?_push_size _ rfl) ((rec.keeps hk).push _)
    exact I1.hok.fresh (Nat.le_refl _)
end
end L2
namespace L2
open PySem PyProof.Rows
/-- what no step of the sorting changes; pd: the runs that wait -/
structure Sb (z : Array Keyed) (pd : Array (Nat × Nat × Nat)) (st : SortSt) : Prop where
  pm : (arrOf st).Perm z
  kd : kindOf st = oneType'
  fl : failedOf st = none
  pd : pendingOf st = pd
theorem Sb.sz {z : Array Keyed} {pd : Array (Nat × Nat × Nat)} {st : SortSt} (h : Sb z pd st) : (arrOf st).size = z.size := h.pm.size_eq
theorem Sb.arr {z xs : Array Keyed} {pd : Array (Nat × Nat × Nat)} {st : SortSt} (h : Sb z pd st) (p : xs.Perm (arrOf st)) : Sb z pd (setArr st xs) := ⟨p.trans h.pm, h.kd, h.fl, h.pd⟩
/-- a key's item -/
theorem key_item {z xs : Array Keyed} (p : xs.Perm z) (hz : IntKeys z) {i : Nat} (hi : i < xs.size) : ∃ t q, xs[i]? = some (.int (K xs i) t, q) := by
  have hm : xs[i] ∈ z.toList := (Array.perm_iff_toList_perm.mp p).mem_iff.mp (by simp)
  obtain ⟨n, t, e⟩ := hz _ hm
  have e1 : xs[i]? = some xs[i] := getElem?_pos xs i hi
  have e2 : xs[i] = (.int n t, xs[i].2) := Prod.ext e rfl
  refine ⟨t, xs[i].2, ?_⟩
  have e3 : K xs i = n := by
    unfold K
    rw [e1]
    show numOf xs[i].1 = n
    rw [e]
    rfl
  rw [e1, e3]
  exact congrArg some e2
section
variable {prog : Program} {w : World} {A : Around} {E : Value → Shared → Prop} {s : Shared} {z : Array Keyed} {pd : Array (Nat × Nat × Nat)}
theorem s_lt {st : SortSt} {i j : Nat} {Q : Option Bool → SortSt → Prop} (b : Sb z pd st) (hz : IntKeys z) (hi : i < z.size) (hj : j < z.size) (h : Q (some (decide (K (arrOf st) i < K (arrOf st) j))) st) :
    wpS (model prog w) A E s (ltAt' i j) Q st := by
  obtain ⟨t, q, e1⟩ := key_item b.pm hz (show i < (arrOf st).size by rw [b.sz]; exact hi)
  obtain ⟨u, r, e2⟩ := key_item b.pm hz (show j < (arrOf st).size by rw [b.sz]; exact hj)
  exact wpS_ltAt b.kd e1 e2 h
/-- n from lo on lie in order -/
def Ord (xs : Array Keyed) (lo n : Nat) : Prop := ∀ i j, i ≤ j → j < n → K xs (lo + i) ≤ K xs (lo + j)
/-- the first lo are as they were -/
def Low (xs ys : Array Keyed) (lo : Nat) : Prop := ∀ i, i < lo → ys[i]? = xs[i]?
theorem Low.refl (xs : Array Keyed) (lo : Nat) : Low xs xs lo := fun _ _ => rfl
theorem Low.trans {xs ys zs : Array Keyed} {lo : Nat} (a : Low xs ys lo) (b : Low ys zs lo) : Low xs zs lo := fun i h => (b i h).trans (a i h)
set_option maxHeartbeats 1000000 in
theorem s_binary {st : SortSt} {lo n ok : Nat} {Q : Bool → SortSt → Prop} (hz : IntKeys z) (hn : lo + n ≤ z.size) (hok : ok ≤ n) (b : Sb z pd st) (hs : Ord (arrOf st) lo ok)
    (h : ∀ st', Sb z pd st' → Low (arrOf st) (arrOf st') lo → Ord (arrOf st') lo n → Q true st') : wpS (model prog w) A E s (binarySort' lo n ok) Q st := by
  rw [binarySort'_eq]
  refine wpS_bind (wpS_mono (wpS_forRange (a := max ok 1) (b := n) (Q := fun c st' => c = (none, ()) ∧ Sb z pd st' ∧ Low (arrOf st) (arrOf st') lo ∧ Ord (arrOf st') lo n)
    (fun k c st' => c = (none, ()) ∧ Sb z pd st' ∧ Low (arrOf st) (arrOf st') lo ∧ Ord (arrOf st') lo (min k n)) ?_ ?_ ?_) ?_)
  · rintro k c st1 hk1 hk2 ⟨rfl, b1, lw, o1⟩
    rw [Nat.min_eq_left (Nat.le_of_lt hk2)] at o1
    refine wpS_bind (wpS_mono (wpS_forRange (a := 0) (b := k) (Q := fun c st2 => st2 = st1 ∧ ∃ l r, c = (none, l, r) ∧ l ≤ k ∧ (∀ i, i < l → K (arrOf st1) (lo + i) ≤ K (arrOf st1) (lo + k)) ∧ ∀ i, l ≤ i → i < k → K (arrOf st1) (lo + k) < K (arrOf st1) (lo + i))
      (fun x c st2 => st2 = st1 ∧ ∃ l r, c = (none, l, r) ∧ l ≤ r ∧ r ≤ k ∧ r + x ≤ k + l ∧ (∀ i, i < l → K (arrOf st1) (lo + i) ≤ K (arrOf st1) (lo + k)) ∧ ∀ i, r ≤ i → i < k → K (arrOf st1) (lo + k) < K (arrOf st1) (lo + i)) ?_ ?_ ?_) ?_)
    · rintro x c st2 _ hx ⟨rfl, l, r, rfl, h1, h2, h3, h4, h5⟩
      dsimp only
      by_cases hlr : l ≥ r
      · rw [if_pos hlr]
        have e : l = r := by omega
        exact wpS_pure ⟨rfl, l, r, rfl, by omega, h4, fun i a b => h5 i (by omega) b⟩
      · rw [if_neg hlr]
        refine wpS_bind (s_lt b1 hz (by omega) (by omega) ?_)
        by_cases hlt : K (arrOf st2) (lo + k) < K (arrOf st2) (lo + (l + r) / 2)
        · simp only [hlt, decide_true, if_true]
          exact wpS_pure ⟨rfl, l, (l + r) / 2, rfl, by omega, by omega, by omega, h4, fun i a c => Int.lt_of_lt_of_le hlt (o1 _ _ a c)⟩
        · simp only [hlt, decide_false, Bool.false_eq_true, if_false]
          exact wpS_pure ⟨rfl, (l + r) / 2 + 1, r, rfl, by omega, by omega, by omega, fun i a => Int.le_trans (o1 i ((l + r) / 2) (by omega) (by omega)) (Int.not_lt.mp hlt), h5⟩
    · rintro c st2 ⟨rfl, l, r, rfl, h1, h2, h3, h4, h5⟩
      have e : l = r := by omega
      exact ⟨rfl, l, r, rfl, by omega, h4, fun i a b => h5 i (by omega) b⟩
    · exact ⟨rfl, 0, k, rfl, Nat.zero_le _, Nat.le_refl _, by omega, fun i a => absurd a (Nat.not_lt_zero _), fun i a c => absurd a (by omega)⟩
    · rintro c st2 ⟨rfl, l, r, rfl, h1, h4, h5⟩
      show wpS _ _ _ _ (do moveDown' (lo + k) (lo + l); pure (ForInStep.yield (none, ()))) _ _
      rw [moveDown'_eq]
      have hsz : lo + k < (arrOf st2).size := by rw [b1.sz]; omega
      refine wpS_bind (wpS_modify (wpS_pure ⟨rfl, b1.arr (bubble_perm _ _ _), fun i hi => ?_, ?_⟩))
      · show (bubble (arrOf st2) (lo + k) (lo + k - (lo + l)))[i]? = _
        rw [getElem?_bubble hsz _ (by omega), if_neg (by omega), if_neg (by omega)]
        exact lw i hi
      · rw [Nat.min_eq_left (by omega)]
        intro i j hij hj
        show K (bubble (arrOf st2) (lo + k) (lo + k - (lo + l))) (lo + i) ≤ K (bubble (arrOf st2) (lo + k) (lo + k - (lo + l))) (lo + j)
        rw [K_bubble hsz (by omega), K_bubble hsz (by omega), show lo + k - (lo + k - (lo + l)) = lo + l by omega]
        have o2 : ∀ i j, i ≤ j → j < k → ∀ x y, x = lo + i → y = lo + j → K (arrOf st2) x ≤ K (arrOf st2) y := fun i j a c x y e1 e2 => by rw [e1, e2]; exact o1 i j a c
        have l4 : ∀ i, i < l → ∀ x, x = lo + i → K (arrOf st2) x ≤ K (arrOf st2) (lo + k) := fun i a x e => by rw [e]; exact h4 i a
        have l5 : ∀ i, l ≤ i → i < k → ∀ x, x = lo + i → K (arrOf st2) (lo + k) ≤ K (arrOf st2) x := fun i a c x e => by rw [e]; exact Int.le_of_lt (h5 i a c)
        repeat' split
        all_goals first
          | exact Int.le_refl _
          | (exfalso; omega)
          | exact l4 i (by omega) _ (by omega)
          | exact l5 (j - 1) (by omega) (by omega) _ (by omega)
          | exact l5 j (by omega) (by omega) _ (by omega)
          | exact o2 (i - 1) (j - 1) (by omega) (by omega) _ _ (by omega) (by omega)
          | exact o2 i (j - 1) (by omega) (by omega) _ _ (by omega) (by omega)
          | exact o2 i j (by omega) (by omega) _ _ (by omega) (by omega)
  · rintro c st1 ⟨hc, b1, lw, o1⟩
    refine ⟨hc, b1, lw, ?_⟩
    rwa [show min (max (max ok 1) n) n = n by omega] at o1
  · refine ⟨rfl, b, Low.refl _ _, fun i j hij hj => ?_⟩
    by_cases e : ok = 0
    · have : i = j := by omega
      subst this
      exact Int.le_refl _
    · exact hs i j hij (by omega)
  · rintro c st1 ⟨rfl, b1, lw, o1⟩
    exact wpS_pure (h st1 b1 lw o1)
end
end L2
namespace L2
open PySem PyProof.Rows
abbrev C1 := Option (Option Nat) × Nat
abbrev C2 := Option (Option Nat) × Nat × Nat
def upL (lo a m : Nat) : StateT SortSt Sem C1 := forIn [a:m] ((none, a) : C1) fun _ c =>
  ltAt' (lo + c.2) (lo + c.2 - 1) >>= fun b? => match b? with
    | some b => if b = true then pure (.done (none, c.2)) else pure (.yield (none, c.2 + 1))
    | _ => pure (.done (some none, c.2))
def turnUp (lo n m : Nat) : StateT SortSt Sem (Option Nat) :=
  reverseSlice' lo (lo + n) >>= fun _ => upL lo n m >>= fun c => match c.1 with
    | some r => pure r
    | none => pure (some c.2)
def downL (lo n m : Nat) : StateT SortSt Sem C2 := forIn [n:m] ((none, n, 0) : C2) fun _ c =>
  ltAt' (lo + c.2.1) (lo + c.2.1 - 1) >>= fun b? => match b? with
    | some b => if b = true then (if c.2.2 > 0 then (reverseSlice' (lo + c.2.1 - (c.2.2 + 1)) (lo + c.2.1) >>= fun _ => pure (.yield (none, c.2.1 + 1, 0))) else pure (.yield (none, c.2.1 + 1, 0)))
      else (ltAt' (lo + c.2.1 - 1) (lo + c.2.1) >>= fun d? => match d? with
        | some d => if d = true then pure (.done (none, c.2.1, c.2.2)) else pure (.yield (none, c.2.1 + 1, c.2.2 + 1))
        | _ => pure (.done (some none, c.2.1, c.2.2)))
    | _ => pure (.done (some none, c.2.1, c.2.2))
def downP (lo n m : Nat) : StateT SortSt Sem (Option Nat) :=
  (liftM (rule "list.sort.descending-run") : StateT SortSt Sem Unit) >>= fun _ => downL lo (n + 1) m >>= fun c => match c.1 with
    | some r => pure r
    | none => if c.2.2 > 0 then (reverseSlice' (lo + c.2.1 - (c.2.2 + 1)) (lo + c.2.1) >>= fun _ => turnUp lo c.2.1 m) else turnUp lo c.2.1 m
theorem run_is (lo m : Nat) : countRun' lo m = (upL lo 1 m >>= fun c => match c.1 with
    | some r => pure r
    | none => if (c.2 == m) = true then pure (some c.2) else if c.2 > 1 then (ltAt' lo (lo + c.2 - 1) >>= fun b? => match b? with
          | some b => if b = true then pure (some c.2) else (reverseSlice' lo (lo + c.2) >>= fun _ => downP lo c.2 m)
          | _ => pure none)
        else downP lo c.2 m) := by
  rw [countRun'_eq]
  refine bind_congr fun c => ?_
  obtain ⟨r, n⟩ := c
  cases r with
  | some r => rfl
  | none =>
    dsimp only
    split
    · rfl
    · have part : ∀ (g : C2 → StateT SortSt Sem (Option Nat)), (∀ c, g c = match c.1 with
          | some r => pure r
          | none => if c.2.2 > 0 then (reverseSlice' (lo + c.2.1 - (c.2.2 + 1)) (lo + c.2.1) >>= fun _ => turnUp lo c.2.1 m) else turnUp lo c.2.1 m) →
          ((liftM (rule "list.sort.descending-run") : StateT SortSt Sem Unit) >>= fun _ => downL lo (n + 1) m >>= g) = downP lo n m := fun g h => by
        unfold downP
        exact bind_congr fun _ => bind_congr fun c => h c
      have last : ∀ (k : Nat) (g : C1 → StateT SortSt Sem (Option Nat)), (∀ c, g c = match c.1 with | some r => pure r | none => pure (some c.2)) → (reverseSlice' lo (lo + k) >>= fun _ => upL lo k m >>= g) = turnUp lo k m := fun k g h => by
        unfold turnUp
        exact bind_congr fun _ => bind_congr fun c => h c
      split
      · refine bind_congr fun x => ?_
        cases x with
        | none => rfl
        | some b =>
          dsimp only
          split
          · rfl
          · refine bind_congr fun _ => part _ fun c => ?_
            obtain ⟨r2, n2, q2⟩ := c
            cases r2 with
            | some r2 => rfl
            | none =>
              dsimp only
              split
              · refine bind_congr fun _ => last _ _ fun c => ?_
                obtain ⟨r3, n3⟩ := c
                cases r3 <;> rfl
              · refine last _ _ fun c => ?_
                obtain ⟨r3, n3⟩ := c
                cases r3 <;> rfl
      · refine part _ fun c => ?_
        obtain ⟨r2, n2, q2⟩ := c
        cases r2 with
        | some r2 => rfl
        | none =>
          dsimp only
          split
          · refine bind_congr fun _ => last _ _ fun c => ?_
            obtain ⟨r3, n3⟩ := c
            cases r3 <;> rfl
          · refine last _ _ fun c => ?_
            obtain ⟨r3, n3⟩ := c
            cases r3 <;> rfl
end L2
namespace L2
open PySem PyProof.Rows
def Dn (xs : Array Keyed) (lo n : Nat) : Prop := ∀ i j, i ≤ j → j < n → K xs (lo + j) ≤ K xs (lo + i)
theorem low_mirror {xs ys : Array Keyed} {lo i j : Nat} (hl : lo ≤ i) (hj : j ≤ ys.size) (h : Low xs ys lo) : Low xs (mirror ys i j ((j - i) / 2)) lo := fun k hk => by
  rw [getElem?_mirror_all hj, if_neg (by omega)]
  exact h k hk
theorem Ord.one (xs : Array Keyed) (lo : Nat) : Ord xs lo 1 := fun i j a b => by
  have e : i = j := by omega
  subst e
  exact Int.le_refl _
section
variable {prog : Program} {w : World} {A : Around} {E : Value → Shared → Prop} {s : Shared} {z : Array Keyed} {pd : Array (Nat × Nat × Nat)} {lo : Nat}
theorem s_rev {st : SortSt} {i j : Nat} {Q : Unit → SortSt → Prop} (h : Q () (setArr st (mirror (arrOf st) i j ((j - i) / 2)))) : wpS (model prog w) A E s (reverseSlice' i j) Q st := by
  rw [reverseSlice'_eq]
  exact wpS_modify h
theorem s_up {st : SortSt} {a m : Nat} {Q : C1 → SortSt → Prop} (hz : IntKeys z) (hm : lo + m ≤ z.size) (ha : 1 ≤ a) (ham : a ≤ m) (b : Sb z pd st) (o : Ord (arrOf st) lo a)
    (h : ∀ n, a ≤ n → n ≤ m → Ord (arrOf st) lo n → (n = m ∨ K (arrOf st) (lo + n) < K (arrOf st) (lo + (n - 1))) → Q (none, n) st) : wpS (model prog w) A E s (upL lo a m) Q st := by
  unfold upL
  refine wpS_forRange (fun x c st' => st' = st ∧ c = (none, x) ∧ Ord (arrOf st) lo x) ?_ ?_ ⟨rfl, rfl, o⟩
  · rintro x c st1 h1 h2 ⟨rfl, rfl, o1⟩
    dsimp only
    rw [show lo + x - 1 = lo + (x - 1) by omega]
    refine wpS_bind (s_lt b hz (by omega) (by omega) ?_)
    by_cases lt : K (arrOf st1) (lo + x) < K (arrOf st1) (lo + (x - 1))
    · simp only [lt, decide_true, if_true]
      exact wpS_pure (h x h1 (Nat.le_of_lt h2) o1 (.inr lt))
    · simp only [lt, decide_false, Bool.false_eq_true, if_false]
      refine wpS_pure ⟨rfl, rfl, fun i j hij hj => ?_⟩
      rcases Nat.lt_succ_iff_lt_or_eq.mp hj with y | y
      · exact o1 i j hij y
      · subst y
        rcases Nat.eq_or_lt_of_le hij with y | y
        · subst y; exact Int.le_refl _
        · exact Int.le_trans (o1 i (j - 1) (by omega) (by omega)) (Int.not_lt.mp lt)
  · rintro c st1 ⟨rfl, rfl, o1⟩
    rw [show max a m = m by omega] at o1 ⊢
    exact h m ham (Nat.le_refl _) o1 (.inl rfl)
theorem s_turnUp {st : SortSt} {n m : Nat} {Q : Option Nat → SortSt → Prop} (hz : IntKeys z) (hm : lo + m ≤ z.size) (h1 : 1 ≤ n) (hnm : n ≤ m) (b : Sb z pd st) (d : Dn (arrOf st) lo n)
    (h : ∀ k st', Sb z pd st' → Low (arrOf st) (arrOf st') lo → 1 ≤ k → k ≤ m → Ord (arrOf st') lo k → Q (some k) st') : wpS (model prog w) A E s (turnUp lo n m) Q st := by
  unfold turnUp
  have hs : lo + n ≤ (arrOf st).size := by rw [b.sz]; omega
  refine wpS_bind (s_rev ?_)
  have b1 : Sb z pd (setArr st (mirror (arrOf st) lo (lo + n) ((lo + n - lo) / 2))) := b.arr (mirror_perm _ _ _ _)
  refine wpS_bind (s_up hz hm h1 hnm b1 (fun i j hij hj => ?_) fun k k1 k2 o _ => wpS_pure (h k _ b1 (low_mirror (Nat.le_refl _) hs (Low.refl _ _)) (by omega) k2 o))
  show K (mirror (arrOf st) lo (lo + n) ((lo + n - lo) / 2)) (lo + i) ≤ K (mirror (arrOf st) lo (lo + n) ((lo + n - lo) / 2)) (lo + j)
  rw [K_mirror hs, K_mirror hs, if_pos (by omega), if_pos (by omega), show lo + (lo + n) - 1 - (lo + i) = lo + (n - 1 - i) by omega, show lo + (lo + n) - 1 - (lo + j) = lo + (n - 1 - j) by omega]
  exact d _ _ (by omega) (by omega)
/-- the last q + 1 alike -/
def Like (xs : Array Keyed) (lo n q : Nat) : Prop := ∀ k, lo + n - (q + 1) ≤ k → k < lo + n → K xs k = K xs (lo + n - 1)
set_option maxHeartbeats 1000000 in
theorem s_down {st : SortSt} {n m : Nat} {Q : C2 → SortSt → Prop} (hz : IntKeys z) (hm : lo + m ≤ z.size) (h1 : 1 ≤ n) (hnm : n ≤ m) (b : Sb z pd st) (d : Dn (arrOf st) lo n)
    (h : ∀ k q st', Sb z pd st' → Low (arrOf st) (arrOf st') lo → n ≤ k → k ≤ m → Dn (arrOf st') lo k → q + 1 ≤ k → Like (arrOf st') lo k q → Q (none, k, q) st') : wpS (model prog w) A E s (downL lo n m) Q st := by
  unfold downL
  have like0 : ∀ (xs : Array Keyed) (x : Nat), 1 ≤ x → Like xs lo x 0 := fun xs x hx k a c => by
    congr 1
    omega
  refine wpS_forRange (fun x c st' => ∃ q, c = (none, x, q) ∧ Sb z pd st' ∧ Low (arrOf st) (arrOf st') lo ∧ Dn (arrOf st') lo x ∧ q + 1 ≤ x ∧ Like (arrOf st') lo x q) ?_ ?_ ⟨0, rfl, b, Low.refl _ _, d, h1, like0 _ _ h1⟩
  · rintro x c st1 hx1 hx2 ⟨q, rfl, b1, lw, d1, hq, lk⟩
    dsimp only
    have hs : lo + x ≤ (arrOf st1).size := by rw [b1.sz]; omega
    have e1 : lo + x - 1 = lo + (x - 1) := by omega
    rw [e1]
    refine wpS_bind (s_lt b1 hz (by omega) (by omega) ?_)
    have more : ∀ xs : Array Keyed, (∀ k, K xs k = K (arrOf st1) k) → K (arrOf st1) (lo + x) ≤ K (arrOf st1) (lo + (x - 1)) → Dn xs lo (x + 1) := fun xs e le i j hij hj => by
      rw [e, e]
      rcases Nat.lt_succ_iff_lt_or_eq.mp hj with y | y
      · exact d1 i j hij y
      · subst y
        rcases Nat.eq_or_lt_of_le hij with y | y
        · subst y; exact Int.le_refl _
        · exact Int.le_trans le (d1 i (j - 1) (by omega) (by omega))
    by_cases lt : K (arrOf st1) (lo + x) < K (arrOf st1) (lo + (x - 1))
    · simp only [lt, decide_true, if_true]
      by_cases q0 : q > 0
      · rw [if_pos q0]
        refine wpS_bind (s_rev (wpS_pure ⟨0, rfl, b1.arr (mirror_perm _ _ _ _), low_mirror (by omega) hs lw, more _ (K_mirror_equal hs lk) (Int.le_of_lt lt), by omega, like0 _ _ (by omega)⟩))
      · rw [if_neg q0]
        exact wpS_pure ⟨0, rfl, b1, lw, more _ (fun _ => rfl) (Int.le_of_lt lt), by omega, like0 _ _ (by omega)⟩
    · simp only [lt, decide_false, Bool.false_eq_true, if_false]
      refine wpS_bind (s_lt b1 hz (by omega) (by omega) ?_)
      by_cases gt : K (arrOf st1) (lo + (x - 1)) < K (arrOf st1) (lo + x)
      · simp only [gt, decide_true, if_true]
        exact wpS_pure (h x q st1 b1 lw hx1 (Nat.le_of_lt hx2) d1 hq lk)
      · simp only [gt, decide_false, Bool.false_eq_true, if_false]
        have e2 : K (arrOf st1) (lo + x) = K (arrOf st1) (lo + (x - 1)) := by omega
        refine wpS_pure ⟨q + 1, rfl, b1, lw, more _ (fun _ => rfl) (Int.le_of_eq e2), by omega, fun k a c => ?_⟩
        rw [show lo + (x + 1) - 1 = lo + x by omega]
        by_cases ek : k = lo + x
        · rw [ek]
        · rw [e2, ← e1]
          exact lk k (by omega) (by omega)
  · rintro c st1 ⟨q, rfl, b1, lw, d1, hq, lk⟩
    rw [show max n m = m by omega] at d1 hq lk ⊢
    exact h m q st1 b1 lw hnm (Nat.le_refl _) d1 hq lk
theorem s_downP {st : SortSt} {n m : Nat} {Q : Option Nat → SortSt → Prop} (hz : IntKeys z) (hm : lo + m ≤ z.size) (hnm : n + 1 ≤ m) (b : Sb z pd st) (d : Dn (arrOf st) lo (n + 1))
    (h : ∀ k st', Sb z pd st' → Low (arrOf st) (arrOf st') lo → 1 ≤ k → k ≤ m → Ord (arrOf st') lo k → Q (some k) st') : wpS (model prog w) A E s (downP lo n m) Q st := by
  unfold downP
  refine wpS_bind (wpS_lift (wpAny_rule ⟨rfl, ?_⟩))
  refine wpS_bind (s_down hz hm (by omega) hnm b d fun k q st1 b1 lw k1 k2 d1 hq lk => ?_)
  dsimp only
  have hs : lo + k ≤ (arrOf st1).size := by rw [b1.sz]; omega
  by_cases q0 : q > 0
  · rw [if_pos q0]
    refine wpS_bind (s_rev (s_turnUp hz hm (by omega) k2 (b1.arr (mirror_perm _ _ _ _)) (fun i j hij hj => ?_) fun k' st2 b2 lw2 a c o => h k' st2 b2 ((low_mirror (by omega) hs lw).trans lw2) a c o))
    show K (mirror (arrOf st1) _ _ _) (lo + j) ≤ K (mirror (arrOf st1) _ _ _) (lo + i)
    rw [K_mirror_equal hs lk, K_mirror_equal hs lk]
    exact d1 i j hij hj
  · rw [if_neg q0]
    exact s_turnUp hz hm (by omega) k2 b1 d1 fun k' st2 b2 lw2 a c o => h k' st2 b2 (lw.trans lw2) a c o
theorem s_run {st : SortSt} {m : Nat} {Q : Option Nat → SortSt → Prop} (hz : IntKeys z) (hm : lo + m ≤ z.size) (h1 : 1 ≤ m) (b : Sb z pd st)
    (h : ∀ k st', Sb z pd st' → Low (arrOf st) (arrOf st') lo → 1 ≤ k → k ≤ m → Ord (arrOf st') lo k → Q (some k) st') : wpS (model prog w) A E s (countRun' lo m) Q st := by
  rw [run_is]
  refine wpS_bind (s_up hz hm (Nat.le_refl 1) h1 b (Ord.one _ _) fun n n1 n2 o hor => ?_)
  dsimp only
  by_cases e : n = m
  · rw [if_pos (by simpa using e)]
    exact wpS_pure (h n st b (Low.refl _ _) n1 n2 o)
  · rw [if_neg (by simpa using e)]
    have lt := hor.resolve_left e
    by_cases n3 : n > 1
    · rw [if_pos n3, show lo + n - 1 = lo + (n - 1) by omega]
      refine wpS_bind (s_lt b hz (by omega) (by omega) ?_)
      by_cases rose : K (arrOf st) lo < K (arrOf st) (lo + (n - 1))
      · simp only [rose, decide_true, if_true]
        exact wpS_pure (h n st b (Low.refl _ _) n1 n2 o)
      · simp only [rose, decide_false, Bool.false_eq_true, if_false]
        have hs : lo + n ≤ (arrOf st).size := by rw [b.sz]; omega
        have all : ∀ k, lo ≤ k → k < lo + n → K (arrOf st) k = K (arrOf st) (lo + n - 1) := fun k a c => by
          have u1 := o 0 (k - lo) (by omega) (by omega)
          have u2 := o (k - lo) (n - 1) (by omega) (by omega)
          rw [show lo + (k - lo) = k by omega] at u1 u2
          rw [show lo + n - 1 = lo + (n - 1) by omega]
          simp only [Nat.add_zero] at u1
          omega
        refine wpS_bind (s_rev (s_downP hz hm (by omega) (b.arr (mirror_perm _ _ _ _)) (fun i j hij hj => ?_) fun k st2 b2 lw2 a c o2 => h k st2 b2 ((low_mirror (Nat.le_refl _) hs (Low.refl _ _)).trans lw2) a c o2))
        show K (mirror (arrOf st) _ _ _) (lo + j) ≤ K (mirror (arrOf st) _ _ _) (lo + i)
        rw [K_mirror_equal hs all, K_mirror_equal hs all]
        by_cases hj2 : j < n
        · rw [all (lo + i) (by omega) (by omega), all (lo + j) (by omega) (by omega)]; exact Int.le_refl _
        · have ej : j = n := by omega
          subst ej
          by_cases ei : i = j
          · rw [ei]; exact Int.le_refl _
          · rw [all (lo + i) (by omega) (by omega), show lo + j - 1 = lo + (j - 1) by omega]; exact Int.le_of_lt lt
    · rw [if_neg n3]
      have en : n = 1 := by omega
      subst en
      refine s_downP hz hm (by omega) b (fun i j hij hj => ?_) h
      by_cases ei : i = j
      · rw [ei]; exact Int.le_refl _
      · have e0 : i = 0 := by omega
        have e1 : j = 1 := by omega
        subst e0 e1
        exact Int.le_of_lt lt
end
end L2
namespace L2
open PySem PyProof.Rows
def gallopM : Bool → Keyed → Array Keyed → Nat → Nat → Nat → StateT SortSt Sem (Option Nat) := sortPriv% PySem.Builtin.gallop
abbrev BdT := Nat → StateT SortSt Sem (Option Bool)
def bdOf (left : Bool) (key : Keyed) (arr : Array Keyed) (base : Nat) : BdT := fun i =>
  elem' arr (base + i) >>= fun x => if left = true then lt' x key else (lt' key x >>= fun b => pure (b.map fun y => !y))
def halve (bd : BdT) (n lo hi : Nat) : StateT SortSt Sem (Option Nat) :=
  (forIn [0:n] ((none, lo, hi) : C2) fun _ c => if c.2.1 ≥ c.2.2 then pure (.done (none, c.2.1, c.2.2)) else
    bd (c.2.1 + (c.2.2 - c.2.1) / 2) >>= fun b? => match b? with
      | some b => if b = true then pure (.yield (none, c.2.1 + (c.2.2 - c.2.1) / 2 + 1, c.2.2)) else pure (.yield (none, c.2.1, c.2.1 + (c.2.2 - c.2.1) / 2))
      | _ => pure (.done (some none, c.2.1, c.2.2))) >>= fun c => match c.1 with
    | some r => pure r
    | none => pure (some c.2.2)
def hopR (bd : BdT) (n hint : Nat) : StateT SortSt Sem C2 := forIn [0:n] ((none, 0, 1) : C2) fun _ c => if c.2.2 ≥ n - hint then pure (.done (none, c.2.1, c.2.2)) else
    bd (hint + c.2.2) >>= fun b? => match b? with
      | some b => if (!b) = true then pure (.done (none, c.2.1, c.2.2)) else pure (.yield (none, c.2.2, 2 * c.2.2 + 1))
      | _ => pure (.done (some none, c.2.1, c.2.2))
def hopL (bd : BdT) (n hint : Nat) : StateT SortSt Sem C2 := forIn [0:n] ((none, 0, 1) : C2) fun _ c => if c.2.2 ≥ hint + 1 then pure (.done (none, c.2.1, c.2.2)) else
    bd (hint - c.2.2) >>= fun b? => match b? with
      | some b => if b = true then pure (.done (none, c.2.1, c.2.2)) else pure (.yield (none, c.2.2, 2 * c.2.2 + 1))
      | _ => pure (.done (some none, c.2.1, c.2.2))
theorem gallop_is (left : Bool) (key : Keyed) (arr : Array Keyed) (base n hint : Nat) : gallopM left key arr base n hint = (bdOf left key arr base hint >>= fun b? => match b? with
    | some b => if b = true then (hopR (bdOf left key arr base) n hint >>= fun c => match c.1 with
          | some r => pure r
          | none => halve (bdOf left key arr base) n (hint + c.2.1 + 1) (hint + min c.2.2 (n - hint)))
        else (hopL (bdOf left key arr base) n hint >>= fun c => match c.1 with
          | some r => pure r
          | none => halve (bdOf left key arr base) n (hint + 1 - min c.2.2 (hint + 1)) (hint - c.2.1))
    | _ => pure none) := by
  have hv : ∀ (lo hi : Nat) (g : C2 → StateT SortSt Sem (Option Nat)), (∀ c, g c = match c.1 with | some r => pure r | none => pure (some c.2.2)) →
      ((forIn [0:n] ((none, lo, hi) : C2) fun _ c => if c.2.1 ≥ c.2.2 then pure (.done (none, c.2.1, c.2.2)) else
        bdOf left key arr base (c.2.1 + (c.2.2 - c.2.1) / 2) >>= fun b? => match b? with
          | some b => if b = true then pure (.yield (none, c.2.1 + (c.2.2 - c.2.1) / 2 + 1, c.2.2)) else pure (.yield (none, c.2.1, c.2.1 + (c.2.2 - c.2.1) / 2))
          | _ => pure (.done (some none, c.2.1, c.2.2))) >>= g) = halve (bdOf left key arr base) n lo hi := fun lo hi g h => by
    unfold halve
    exact bind_congr fun c => h c
  refine bind_congr (x := bdOf left key arr base hint) fun x => ?_
  cases x with
  | none => rfl
  | some b =>
    cases b with
    | true =>
      refine bind_congr (x := hopR (bdOf left key arr base) n hint) fun c => ?_
      obtain ⟨r, l, o⟩ := c
      cases r with
      | some r => rfl
      | none =>
        refine hv _ _ _ fun c => ?_
        obtain ⟨r2, l2, o2⟩ := c
        cases r2 <;> rfl
    | false =>
      refine bind_congr (x := hopL (bdOf left key arr base) n hint) fun c => ?_
      obtain ⟨r, l, o⟩ := c
      cases r with
      | some r => rfl
      | none =>
        refine hv _ _ _ fun c => ?_
        obtain ⟨r2, l2, o2⟩ := c
        cases r2 <;> rfl
section
variable {prog : Program} {w : World} {A : Around} {E : Value → Shared → Prop} {s : Shared}
theorem s_lt2 {st : SortSt} {a b : Int} {t u : Tok} {p q : Value} {Q : Option Bool → SortSt → Prop} (hk : kindOf st = oneType') (h : Q (some (decide (a < b))) st) :
    wpS (model prog w) A E s (lt' (.int a t, p) (.int b u, q)) Q st := by
  rw [lt'_eq]
  refine wpS_bind (wpS_get ?_)
  rw [hk, keyLt'_oneType]
  exact wpS_bind (wpS_lift (wpAny_attempt (oneLt_int ⟨rfl, wpS_pure h⟩)))
/-- what is asked of each -/
def beyond (left : Bool) (k x : Int) : Bool := if left = true then decide (x < k) else !decide (k < x)
theorem s_bd {st : SortSt} {left : Bool} {k : Int} {t : Tok} {q : Value} {arr : Array Keyed} {base i : Nat} {u : Tok} {r : Value} {Q : Option Bool → SortSt → Prop} (hk : kindOf st = oneType')
    (hi : arr[base + i]? = some (.int (K arr (base + i)) u, r)) (h : Q (some (beyond left k (K arr (base + i)))) st) : wpS (model prog w) A E s (bdOf left (.int k t, q) arr base i) Q st := by
  unfold bdOf
  rw [elem'_eq, hi]
  refine wpS_bind (wpS_pure ?_)
  unfold beyond at h
  cases left with
  | true =>
    rw [if_pos rfl] at h ⊢
    exact s_lt2 hk h
  | false =>
    rw [if_neg (by decide)] at h ⊢
    exact wpS_bind (s_lt2 hk (wpS_pure h))
/-- bd tells P, and changes nothing -/
def Tells (prog : Program) (w : World) (A : Around) (E : Value → Shared → Prop) (s : Shared) (st : SortSt) (bd : BdT) (n : Nat) (P : Nat → Bool) : Prop :=
  ∀ i, i < n → ∀ Q : Option Bool → SortSt → Prop, Q (some (P i)) st → wpS (model prog w) A E s (bd i) Q st
theorem s_halve {st : SortSt} {bd : BdT} {n lo hi : Nat} {P : Nat → Bool} {Q : Option Nat → SortSt → Prop} (tl : Tells prog w A E s st bd n P) (h1 : lo ≤ hi) (h2 : hi ≤ n) (pl : ∀ i, i < lo → P i = true) (ph : ∀ i, hi ≤ i → i < n → P i = false)
    (mono : ∀ i j, i ≤ j → j < n → P j = true → P i = true) (h : ∀ k, k ≤ n → (∀ i, i < k → P i = true) → (∀ i, k ≤ i → i < n → P i = false) → Q (some k) st) : wpS (model prog w) A E s (halve bd n lo hi) Q st := by
  unfold halve
  refine wpS_bind (wpS_mono (wpS_forRange (Q := fun c st' => st' = st ∧ ∃ l g, c = (none, l, g) ∧ l = g ∧ g ≤ n ∧ (∀ i, i < l → P i = true) ∧ ∀ i, g ≤ i → i < n → P i = false)
    (fun x c st' => st' = st ∧ ∃ l g, c = (none, l, g) ∧ l ≤ g ∧ g ≤ n ∧ g + x ≤ n + l ∧ (∀ i, i < l → P i = true) ∧ ∀ i, g ≤ i → i < n → P i = false) ?_ ?_ ⟨rfl, lo, hi, rfl, h1, h2, by omega, pl, ph⟩) ?_)
  · rintro x c st1 _ hx ⟨rfl, l, g, rfl, l1, l2, l3, p1, p2⟩
    dsimp only
    by_cases ge : l ≥ g
    · rw [if_pos ge]
      exact wpS_pure ⟨rfl, l, g, rfl, by omega, l2, p1, p2⟩
    · rw [if_neg ge]
      refine wpS_bind (tl _ (by omega) _ ?_)
      cases hp : P (l + (g - l) / 2) with
      | true =>
        dsimp only
        rw [if_pos rfl]
        exact wpS_pure ⟨rfl, _, g, rfl, by omega, l2, by omega, fun i hi => mono i _ (by omega) (by omega) hp, p2⟩
      | false =>
        dsimp only
        rw [if_neg (by decide)]
        refine wpS_pure ⟨rfl, l, _, rfl, by omega, by omega, by omega, p1, fun i a b => ?_⟩
        cases hq : P i with
        | false => rfl
        | true =>
          have := mono _ i a b hq
          rw [hp] at this
          cases this
  · rintro c st1 ⟨rfl, l, g, rfl, l1, l2, l3, p1, p2⟩
    exact ⟨rfl, l, g, rfl, by omega, l2, p1, p2⟩
  · rintro c st1 ⟨rfl, l, g, rfl, rfl, l2, p1, p2⟩
    exact wpS_pure (h l l2 p1 p2)
set_option maxHeartbeats 1000000 in
theorem s_gallop {st : SortSt} {left : Bool} {key : Keyed} {arr : Array Keyed} {base n hint : Nat} {P : Nat → Bool} {Q : Option Nat → SortSt → Prop} (tl : Tells prog w A E s st (bdOf left key arr base) n P) (hn : hint < n)
    (mono : ∀ i j, i ≤ j → j < n → P j = true → P i = true) (h : ∀ k, k ≤ n → (∀ i, i < k → P i = true) → (∀ i, k ≤ i → i < n → P i = false) → Q (some k) st) :
    wpS (model prog w) A E s (gallopM left key arr base n hint) Q st := by
  rw [gallop_is]
  have anti : ∀ i j, i ≤ j → j < n → P i = false → P j = false := fun i j a b c => by
    cases d : P j with
    | false => rfl
    | true => rw [mono i j a b d] at c; cases c
  refine wpS_bind (tl hint hn _ ?_)
  cases hp : P hint with
  | true =>
    dsimp only
    rw [if_pos rfl]
    unfold hopR
    refine wpS_bind (wpS_mono (wpS_forRange (Q := fun c st' => st' = st ∧ ∃ l o, c = (none, l, o) ∧ l < o ∧ l < n - hint ∧ P (hint + l) = true ∧ (o < n - hint → P (hint + o) = false))
      (fun x c st' => st' = st ∧ ∃ l o, c = (none, l, o) ∧ l < o ∧ x < o ∧ l < n - hint ∧ P (hint + l) = true) ?_ ?_ ⟨rfl, 0, 1, rfl, by omega, by omega, by omega, hp⟩) ?_)
    · rintro x c st1 _ hx ⟨rfl, l, o, rfl, h1, h2, h3, h4⟩
      dsimp only
      by_cases ge : o ≥ n - hint
      · rw [if_pos ge]
        exact wpS_pure ⟨rfl, l, o, rfl, h1, h3, h4, fun z => absurd z (by omega)⟩
      · rw [if_neg ge]
        refine wpS_bind (tl _ (by omega) _ ?_)
        cases ho : P (hint + o) with
        | false =>
          dsimp only
          rw [if_pos (show (!false) = true from rfl)]
          exact wpS_pure ⟨rfl, l, o, rfl, h1, h3, h4, fun _ => ho⟩
        | true =>
          dsimp only
          rw [if_neg (by decide)]
          exact wpS_pure ⟨rfl, o, 2 * o + 1, rfl, by omega, by omega, by omega, ho⟩
    · rintro c st1 ⟨rfl, l, o, rfl, h1, h2, h3, h4⟩
      exact ⟨rfl, l, o, rfl, h1, h3, h4, fun z => absurd z (by omega)⟩
    · rintro c st1 ⟨rfl, l, o, rfl, h1, h3, h4, h5⟩
      dsimp only
      refine s_halve tl (by omega) (by omega) (fun i hi => mono i _ (by omega) (by omega) h4) (fun i a b => ?_) mono h
      by_cases z : o < n - hint
      · exact anti _ i (by omega) b (h5 z)
      · omega
  | false =>
    dsimp only
    rw [if_neg (by decide)]
    unfold hopL
    refine wpS_bind (wpS_mono (wpS_forRange (Q := fun c st' => st' = st ∧ ∃ l o, c = (none, l, o) ∧ l < o ∧ l ≤ hint ∧ P (hint - l) = false ∧ (o < hint + 1 → P (hint - o) = true))
      (fun x c st' => st' = st ∧ ∃ l o, c = (none, l, o) ∧ l < o ∧ x < o ∧ l ≤ hint ∧ P (hint - l) = false) ?_ ?_ ⟨rfl, 0, 1, rfl, by omega, by omega, by omega, hp⟩) ?_)
    · rintro x c st1 _ hx ⟨rfl, l, o, rfl, h1, h2, h3, h4⟩
      dsimp only
      by_cases ge : o ≥ hint + 1
      · rw [if_pos ge]
        exact wpS_pure ⟨rfl, l, o, rfl, h1, h3, h4, fun z => absurd z (by omega)⟩
      · rw [if_neg ge]
        refine wpS_bind (tl _ (by omega) _ ?_)
        cases ho : P (hint - o) with
        | true =>
          dsimp only
          rw [if_pos rfl]
          exact wpS_pure ⟨rfl, l, o, rfl, h1, h3, h4, fun _ => ho⟩
        | false =>
          dsimp only
          rw [if_neg (by decide)]
          exact wpS_pure ⟨rfl, o, 2 * o + 1, rfl, by omega, by omega, by omega, ho⟩
    · rintro c st1 ⟨rfl, l, o, rfl, h1, h2, h3, h4⟩
      exact ⟨rfl, l, o, rfl, h1, h3, h4, fun z => absurd z (by omega)⟩
    · rintro c st1 ⟨rfl, l, o, rfl, h1, h3, h4, h5⟩
      dsimp only
      refine s_halve tl (by omega) (by omega) (fun i hi => ?_) (fun i a b => anti (hint - l) i (by omega) b h4) mono h
      by_cases z : o < hint + 1
      · exact mono i _ (by omega) (by omega) (h5 z)
      · omega
end
end L2
namespace L2
open PySem PyProof.Rows
def ky (p : Keyed) : Int := numOf p.1
theorem ky_at {xs : Array Keyed} {i : Nat} {p : Keyed} (h : xs[i]? = some p) : K xs i = ky p := by unfold K; rw [h]; rfl
/-- laid so far: the first ia of a, the first ib of b; all that is left is no less -/
structure Laid2 (a b : Array Keyed) (L : List Keyed) (ia ib : Nat) : Prop where
  pm : L.Perm (a.toList.take ia ++ b.toList.take ib)
  so : L.Pairwise fun p q => ky p ≤ ky q
  la : ∀ p ∈ L, ∀ i, ia ≤ i → i < a.size → ky p ≤ K a i
  lb : ∀ p ∈ L, ∀ j, ib ≤ j → j < b.size → ky p ≤ K b j
def Up (xs : Array Keyed) : Prop := ∀ i j, i ≤ j → j < xs.size → K xs i ≤ K xs j
theorem pw_snoc {L : List Keyed} {p : Keyed} (h : L.Pairwise fun p q => ky p ≤ ky q) (hp : ∀ q ∈ L, ky q ≤ ky p) : (L ++ [p]).Pairwise fun p q => ky p ≤ ky q := by
  rw [List.pairwise_append]
  exact ⟨h, List.pairwise_singleton _ _, fun x hx y hy => by rw [List.mem_singleton.mp hy]; exact hp x hx⟩
theorem take_snoc {xs : Array Keyed} {i : Nat} {p : Keyed} (h : xs[i]? = some p) : xs.toList.take (i + 1) = xs.toList.take i ++ [p] := by
  rw [List.take_add_one, Array.getElem?_toList, h]
  rfl
theorem Laid2.stepA {a b : Array Keyed} {L : List Keyed} {ia ib : Nat} {p : Keyed} (h : Laid2 a b L ia ib) (ua : Up a) (hp : a[ia]? = some p) (hb : ∀ j, ib ≤ j → j < b.size → ky p ≤ K b j) : Laid2 a b (L ++ [p]) (ia + 1) ib := by
  have hl : ia < a.size := (Array.getElem?_eq_some_iff.mp hp).1
  have ek := ky_at hp
  refine ⟨?_, pw_snoc h.so fun q hq => ?_, fun q hq i h1 h2 => ?_, fun q hq j h1 h2 => ?_⟩
  · rw [take_snoc hp]
    refine (h.pm.append_right [p]).trans ?_
    rw [List.append_assoc, List.append_assoc]
    exact List.Perm.append_left _ List.perm_append_comm
  · rw [← ek]; exact h.la q hq ia (Nat.le_refl _) hl
  · rcases List.mem_append.mp hq with y | y
    · exact h.la q y i (by omega) h2
    · rw [List.mem_singleton.mp y, ← ek]; exact ua ia i (by omega) h2
  · rcases List.mem_append.mp hq with y | y
    · exact h.lb q y j h1 h2
    · rw [List.mem_singleton.mp y]; exact hb j h1 h2
theorem Laid2.stepB {a b : Array Keyed} {L : List Keyed} {ia ib : Nat} {p : Keyed} (h : Laid2 a b L ia ib) (ub : Up b) (hp : b[ib]? = some p) (ha : ∀ i, ia ≤ i → i < a.size → ky p ≤ K a i) : Laid2 a b (L ++ [p]) ia (ib + 1) := by
  have hl : ib < b.size := (Array.getElem?_eq_some_iff.mp hp).1
  have ek := ky_at hp
  refine ⟨?_, pw_snoc h.so fun q hq => ?_, fun q hq i h1 h2 => ?_, fun q hq j h1 h2 => ?_⟩
  · rw [take_snoc hp, ← List.append_assoc]
    exact h.pm.append_right [p]
  · rw [← ek]; exact h.lb q hq ib (Nat.le_refl _) hl
  · rcases List.mem_append.mp hq with y | y
    · exact h.la q y i h1 h2
    · rw [List.mem_singleton.mp y]; exact ha i h1 h2
  · rcases List.mem_append.mp hq with y | y
    · exact h.lb q y j (by omega) h2
    · rw [List.mem_singleton.mp y, ← ek]; exact ub ib j (by omega) h2
theorem ext_snoc {xs : Array Keyed} {i k : Nat} {p : Keyed} (h : xs[i + k]? = some p) : (xs.extract i (i + (k + 1))).toList = (xs.extract i (i + k)).toList ++ [p] := by
  simp only [Array.toList_extract, List.extract_eq_take_drop]
  rw [show i + (k + 1) - i = k + 1 by omega, show i + k - i = k by omega, List.take_add_one, List.getElem?_drop, Array.getElem?_toList, h]
  rfl
/-- a block of a, none of it greater than what is left of b -/
theorem Laid2.blkA {a b : Array Keyed} {L : List Keyed} {ia ib : Nat} (h : Laid2 a b L ia ib) (ua : Up a) : ∀ k, ia + k ≤ a.size → (∀ i, i < k → ∀ j, ib ≤ j → j < b.size → K a (ia + i) ≤ K b j) → Laid2 a b (L ++ (a.extract ia (ia + k)).toList) (ia + k) ib
  | 0, _, _ => by simpa using h
  | k + 1, hk, hb => by
    have h1 := h.blkA ua k (by omega) fun i hi => hb i (by omega)
    obtain ⟨p, hp⟩ : ∃ p, a[ia + k]? = some p := ⟨_, Array.getElem?_eq_getElem (by omega)⟩
    rw [ext_snoc hp, ← List.append_assoc]
    exact h1.stepA ua hp fun j j1 j2 => by rw [← ky_at hp]; exact hb k (by omega) j j1 j2
theorem Laid2.blkB {a b : Array Keyed} {L : List Keyed} {ia ib : Nat} (h : Laid2 a b L ia ib) (ub : Up b) : ∀ k, ib + k ≤ b.size → (∀ j, j < k → ∀ i, ia ≤ i → i < a.size → K b (ib + j) ≤ K a i) → Laid2 a b (L ++ (b.extract ib (ib + k)).toList) ia (ib + k)
  | 0, _, _ => by simpa using h
  | k + 1, hk, ha => by
    have h1 := h.blkB ub k (by omega) fun j hj => ha j (by omega)
    obtain ⟨p, hp⟩ : ∃ p, b[ib + k]? = some p := ⟨_, Array.getElem?_eq_getElem (by omega)⟩
    rw [ext_snoc hp, ← List.append_assoc]
    exact h1.stepB ub hp fun i i1 i2 => by rw [← ky_at hp]; exact ha k (by omega) i i1 i2
/-- what laying together gives -/
def Joined (a b r : Array Keyed) : Prop := r.toList.Perm (a.toList ++ b.toList) ∧ r.toList.Pairwise fun p q => ky p ≤ ky q
theorem Laid2.all {a b : Array Keyed} {L : List Keyed} (h : Laid2 a b L a.size b.size) : L.Perm (a.toList ++ b.toList) ∧ L.Pairwise fun p q => ky p ≤ ky q := by
  refine ⟨?_, h.so⟩
  have := h.pm
  rwa [List.take_of_length_le (by simp), List.take_of_length_le (by simp)] at this
/-- b is through -/
theorem Laid2.endA {a b out : Array Keyed} {ia ib : Nat} (h : Laid2 a b out.toList ia ib) (ua : Up a) (hi : ia ≤ a.size) (hb : ib = b.size) : Joined a b (out ++ a.extract ia a.size ++ b.extract ib b.size) := by
  subst hb
  have h1 := h.blkA ua (a.size - ia) (by omega) fun i _ j j1 j2 => absurd j1 (by omega)
  rw [show ia + (a.size - ia) = a.size by omega] at h1
  have e : (out ++ a.extract ia a.size ++ b.extract b.size b.size).toList = out.toList ++ (a.extract ia a.size).toList := by simp
  unfold Joined
  rw [e]
  exact h1.all
/-- what is left of b, then what is left of a -/
theorem Laid2.endB {a b out : Array Keyed} {ia ib : Nat} (h : Laid2 a b out.toList ia ib) (ua : Up a) (ub : Up b) (hi : ia ≤ a.size) (hj : ib ≤ b.size) (le : ∀ i j, ia ≤ i → i < a.size → ib ≤ j → j < b.size → K b j ≤ K a i) :
    Joined a b (out ++ b.extract ib b.size ++ a.extract ia a.size) := by
  have h1 := h.blkB ub (b.size - ib) (by omega) fun j hj i i1 i2 => le i (ib + j) i1 i2 (by omega) (by omega)
  rw [show ib + (b.size - ib) = b.size by omega] at h1
  have h2 := h1.blkA ua (a.size - ia) (by omega) fun i _ j j1 j2 => absurd j1 (by omega)
  rw [show ia + (a.size - ia) = a.size by omega] at h2
  unfold Joined
  rw [Array.toList_append, Array.toList_append]
  exact h2.all
end L2
namespace L2
open PySem PyProof.Rows
def mergeLoM : Array Keyed → Array Keyed → StateT SortSt Sem (Array Keyed) := sortPriv% PySem.Builtin.mergeLo
def setMG : Nat → StateT SortSt Sem Unit := sortPriv% PySem.Builtin.setMinGallop
abbrev AK := Array Keyed
abbrev G0 := Option AK × AK × Nat × Nat × Nat
abbrev G1 := Option AK × AK × Nat × Nat × Nat × Nat
abbrev G2 := Option AK × AK × Nat × Nat × Nat × Nat × Nat
def dnA (a b out : AK) (ia ib : Nat) : AK := out ++ a.extract ia a.size ++ b.extract ib b.size
def lsA (a b out : AK) (ia ib : Nat) : AK := out ++ b.extract ib b.size ++ a.extract ia a.size
def pick (a b : AK) (mg : Nat) : G1 → StateT SortSt Sem (ForInStep G1) := fun (_, out, ia, ib, ac, bc) =>
  elem' b ib >>= fun y => elem' a ia >>= fun x => lt' y x >>= fun r? => match r? with
    | some r => if r = true then (elem' b ib >>= fun y => if (ib + 1 == b.size) = true then pure (.done (some (dnA a b (out.push y) ia (ib + 1)), out.push y, ia, ib + 1, 0, bc + 1))
          else if bc + 1 ≥ mg then pure (.done (none, out.push y, ia, ib + 1, 0, bc + 1)) else pure (.yield (none, out.push y, ia, ib + 1, 0, bc + 1)))
        else (elem' a ia >>= fun x => if (ia + 1 + 1 == a.size) = true then pure (.done (some (lsA a b (out.push x) (ia + 1) ib), out.push x, ia + 1, ib, ac + 1, 0))
          else if ac + 1 ≥ mg then pure (.done (none, out.push x, ia + 1, ib, ac + 1, 0)) else pure (.yield (none, out.push x, ia + 1, ib, ac + 1, 0)))
    | _ => pure (.done (some (dnA a b out ia ib), out, ia, ib, ac, bc))
def gal3 (a b : AK) (mg ac k2 : Nat) (out : AK) (ia ib : Nat) : StateT SortSt Sem (ForInStep G2) :=
  elem' a ia >>= fun x => if (ia + 1 + 1 == a.size) = true then pure (.done (some (lsA a b (out.push x) (ia + 1) ib), out.push x, ia + 1, ib, mg, ac, k2))
    else if (decide (ac < 7) && decide (k2 < 7)) = true then pure (.done (none, out.push x, ia + 1, ib, mg, ac, k2)) else pure (.yield (none, out.push x, ia + 1, ib, mg, ac, k2))
def gal2 (a b : AK) (mg bc k : Nat) (out : AK) (ia ib : Nat) : StateT SortSt Sem (ForInStep G2) :=
  elem' b ib >>= fun y => if (ib + 1 == b.size) = true then pure (.done (some (dnA a b (out.push y) ia (ib + 1)), out.push y, ia, ib + 1, mg, k, bc)) else
    elem' a ia >>= fun x => gallopM true x b (ib + 1) (b.size - (ib + 1)) 0 >>= fun k? => match k? with
      | some k2 => if k2 > 0 then (if (ib + 1 + k2 == b.size) = true then pure (.done (some (dnA a b (out.push y ++ b.extract (ib + 1) (ib + 1 + k2)) ia (ib + 1 + k2)), out.push y ++ b.extract (ib + 1) (ib + 1 + k2), ia, ib + 1 + k2, mg, k, k2))
            else gal3 a b mg k k2 (out.push y ++ b.extract (ib + 1) (ib + 1 + k2)) ia (ib + 1 + k2))
          else gal3 a b mg k k2 (out.push y) ia (ib + 1)
      | _ => pure (.done (some (dnA a b (out.push y) ia (ib + 1)), out.push y, ia, ib + 1, mg, k, bc))
def gal1 (a b : AK) (mg ac bc : Nat) (out : AK) (ia ib : Nat) : StateT SortSt Sem (ForInStep G2) :=
  setMG mg >>= fun _ => elem' b ib >>= fun y => gallopM false y a ia (a.size - ia) 0 >>= fun k? => match k? with
    | some k => if k > 0 then (if (ia + k + 1 == a.size) = true then pure (.done (some (lsA a b (out ++ a.extract ia (ia + k)) (ia + k) ib), out ++ a.extract ia (ia + k), ia + k, ib, mg, k, bc))
          else if (ia + k == a.size) = true then pure (.done (some (dnA a b (out ++ a.extract ia (ia + k)) (ia + k) ib), out ++ a.extract ia (ia + k), ia + k, ib, mg, k, bc))
          else gal2 a b mg bc k (out ++ a.extract ia (ia + k)) (ia + k) ib)
        else gal2 a b mg bc k out ia ib
    | _ => pure (.done (some (dnA a b out ia ib), out, ia, ib, mg, ac, bc))
def gal (a b : AK) : G2 → StateT SortSt Sem (ForInStep G2) := fun (_, out, ia, ib, mg, ac, bc) => if mg > 1 then gal1 a b (mg - 1) ac bc out ia ib else gal1 a b mg ac bc out ia ib
def lap (a b : AK) : G0 → StateT SortSt Sem (ForInStep G0) := fun (_, out, ia, ib, mg) =>
  (forIn [0:a.size + b.size] ((none, out, ia, ib, 0, 0) : G1) fun _ d => pick a b mg d) >>= fun d => match d.1 with
    | some r => pure (.done (some r, d.2.1, d.2.2.1, d.2.2.2.1, mg))
    | none => (liftM (rule "list.sort.gallop") : StateT SortSt Sem Unit) >>= fun _ =>
      (forIn [0:a.size + b.size] ((none, d.2.1, d.2.2.1, d.2.2.2.1, mg + 1, d.2.2.2.2.1, d.2.2.2.2.2) : G2) fun _ e => gal a b e) >>= fun e => match e.1 with
        | some r => pure (.done (some r, e.2.1, e.2.2.1, e.2.2.2.1, e.2.2.2.2.1))
        | none => setMG (e.2.2.2.2.1 + 1) >>= fun _ => pure (.yield (none, e.2.1, e.2.2.1, e.2.2.2.1, e.2.2.2.2.1 + 1))
set_option maxHeartbeats 2000000 in
theorem lo_is (a b : AK) : mergeLoM a b = ((liftM (rule "list.sort.merge-lo") : StateT SortSt Sem Unit) >>= fun _ => elem' b 0 >>= fun y => if (1 == b.size) = true then pure (dnA a b #[y] 0 1)
    else if (0 + 1 == a.size) = true then pure (lsA a b #[y] 0 1) else (get : StateT SortSt Sem SortSt) >>= fun s0 =>
      (forIn [0:a.size + b.size] ((none, #[y], 0, 1, gallopOf s0) : G0) fun _ c => lap a b c) >>= fun c => match c.1 with
        | some r => pure r
        | none => (liftM (unsupported "internal:list.sort.merge-bound") : StateT SortSt Sem AK)) := by
  refine bind_congr fun _ => bind_congr fun y => ?_
  refine ite_congr rfl (fun _ => rfl) fun _ => ite_congr rfl (fun _ => rfl) fun _ => bind_congr fun s0 => ?_
  refine (bind_congr fun c => ?_).trans (congrArg (fun z : StateT SortSt Sem G0 => z >>= fun c => match c.1 with
        | some r => pure r
        | none => (liftM (unsupported "internal:list.sort.merge-bound") : StateT SortSt Sem AK)) (congrArg (forIn [0:a.size + b.size] ((none, #[y], 0, 1, gallopOf s0) : G0)) (funext fun i => funext fun c => ?_)))
  · obtain ⟨r, c⟩ := c
    cases r <;> rfl
  · obtain ⟨r, out, ia, ib, mg⟩ := c
    refine (bind_congr fun d => ?_).trans (congrArg (fun z : StateT SortSt Sem G1 => z >>= _) (congrArg (forIn [0:a.size + b.size] ((none, out, ia, ib, 0, 0) : G1)) (funext fun i => funext fun c => ?_)))
    · obtain ⟨r, out, ia, ib, ac, bc⟩ := d
      cases r with
      | some r => rfl
      | none =>
        refine bind_congr fun _ => ?_
        refine (bind_congr fun e => ?_).trans (congrArg (fun z : StateT SortSt Sem G2 => z >>= _) (congrArg (forIn [0:a.size + b.size] ((none, out, ia, ib, mg + 1, ac, bc) : G2)) (funext fun i => funext fun c => ?_)))
        · obtain ⟨r, out, ia, ib, mg, ac, bc⟩ := e
          cases r <;> rfl
        · obtain ⟨r, out, ia, ib, mg, ac, bc⟩ := c
          exact ite_congr rfl (fun _ => rfl) fun _ => rfl
    · obtain ⟨r, out, ia, ib, ac, bc⟩ := c
      refine bind_congr fun y => bind_congr fun x => bind_congr fun r? => ?_
      cases r? <;> rfl
end L2
namespace L2
open PySem PyProof.Rows
def Its (xs : AK) : Prop := ∀ i, i < xs.size → ∃ t q, xs[i]? = some (.int (K xs i) t, q)
/-- all but the galloping's threshold is as it was -/
structure Alike (st st' : SortSt) : Prop where
  kd : kindOf st' = kindOf st
  ar : arrOf st' = arrOf st
  pd : pendingOf st' = pendingOf st
  fl : failedOf st' = failedOf st
theorem Alike.refl (st : SortSt) : Alike st st := ⟨rfl, rfl, rfl, rfl⟩
theorem setMG_is (g : Nat) : setMG g = modify fun st => SortSt.mk' (kindOf st) (arrOf st) (pendingOf st) g (failedOf st) := rfl
section
variable {prog : Program} {w : World} {A : Around} {E : Value → Shared → Prop} {s : Shared} {a b : AK} {st : SortSt}
theorem s_setMG {st1 : SortSt} {g : Nat} {Q : Unit → SortSt → Prop} (al : Alike st st1) (h : ∀ st2, Alike st st2 → Q () st2) : wpS (model prog w) A E s (setMG g) Q st1 := by
  rw [setMG_is]
  exact wpS_modify (h _ ⟨al.kd, al.ar, al.pd, al.fl⟩)
theorem s_elem {st1 : SortSt} {xs : AK} {i : Nat} {p : Keyed} {Q : Keyed → SortSt → Prop} (hp : xs[i]? = some p) (h : Q p st1) : wpS (model prog w) A E s (elem' xs i) Q st1 := by
  rw [elem'_eq, hp]
  exact wpS_pure h
theorem tells_of {st1 : SortSt} {left : Bool} {k : Int} {t : Tok} {q : Value} {arr : AK} {base n : Nat} (hk : kindOf st1 = oneType') (it : Its arr) (hn : base + n ≤ arr.size) :
    Tells prog w A E s st1 (bdOf left (.int k t, q) arr base) n fun i => beyond left k (K arr (base + i)) := fun i hi Q h => by
  obtain ⟨u, r, e⟩ := it (base + i) (by omega)
  exact s_bd hk e h
theorem beyond_mono {left : Bool} {k : Int} {arr : AK} {base n : Nat} (up : Up arr) (hn : base + n ≤ arr.size) : ∀ i j, i ≤ j → j < n → beyond left k (K arr (base + j)) = true → beyond left k (K arr (base + i)) = true := fun i j hij hj h => by
  have := up (base + i) (base + j) (by omega) (by omega)
  unfold beyond at h ⊢
  cases left with
  | true =>
    rw [if_pos rfl, decide_eq_true_iff] at h ⊢
    omega
  | false =>
    rw [if_neg (by decide), Bool.not_eq_true', decide_eq_false_iff_not] at h ⊢
    omega
theorem beyondF {k x : Int} : beyond false k x = true ↔ x ≤ k := by
  unfold beyond
  rw [if_neg (by decide), Bool.not_eq_true', decide_eq_false_iff_not]
  omega
theorem beyondT {k x : Int} : beyond true k x = true ↔ x < k := by
  unfold beyond
  rw [if_pos rfl, decide_eq_true_iff]
theorem b_false {x : Bool} (h : x = false) : ¬ x = true := by rw [h]; decide
/-- amid the laying -/
structure Amid (a b out : AK) (ia ib : Nat) : Prop where
  l : Laid2 a b out.toList ia ib
  ha : ia + 1 < a.size
  hb : ib < b.size
theorem push_list (out : AK) (p : Keyed) : (out.push p).toList = out.toList ++ [p] := by simp
theorem s_pick {st1 : SortSt} {mg ia ib ac bc : Nat} {out : AK} {o : Option AK} {Q : ForInStep G1 → SortSt → Prop} (hk : kindOf st1 = oneType') (ita : Its a) (itb : Its b) (ua : Up a) (ub : Up b) (last : ∀ j, j < b.size → K b j ≤ K a (a.size - 1)) (m : Amid a b out ia ib)
    (hr : ∀ r x, Joined a b r → Q (.done (some r, x)) st1) (hd : ∀ out' ia' ib' ac' bc', Amid a b out' ia' ib' → ia + ib < ia' + ib' → Q (.done (none, out', ia', ib', ac', bc')) st1)
    (hy : ∀ out' ia' ib' ac' bc', Amid a b out' ia' ib' → ia + ib < ia' + ib' → Q (.yield (none, out', ia', ib', ac', bc')) st1) : wpS (model prog w) A E s (pick a b mg (o, out, ia, ib, ac, bc)) Q st1 := by
  have ha := m.ha
  have hb := m.hb
  obtain ⟨t, p, ea⟩ := ita ia (by omega)
  obtain ⟨u, q, eb⟩ := itb ib hb
  unfold pick
  refine wpS_bind (s_elem eb (wpS_bind (s_elem ea (wpS_bind (s_lt2 hk ?_)))))
  by_cases lt : K b ib < K a ia
  · simp only [lt, decide_true, if_true]
    refine wpS_bind (s_elem eb ?_)
    have l1 : Laid2 a b (out.push (.int (K b ib) u, q)).toList ia (ib + 1) := by
      rw [push_list]
      refine m.l.stepB ub eb fun i h1 h2 => ?_
      have := ua ia i h1 h2
      show K b ib ≤ K a i
      omega
    by_cases e : ib + 1 = b.size
    · rw [if_pos (by simpa using e)]
      exact wpS_pure (hr _ _ (l1.endA ua (by omega) e))
    · rw [if_neg (by simpa using e)]
      have m1 : Amid a b (out.push (.int (K b ib) u, q)) ia (ib + 1) := ⟨l1, ha, by omega⟩
      by_cases g : bc + 1 ≥ mg
      · rw [if_pos g]
        exact wpS_pure (hd _ _ _ _ _ m1 (by omega))
      · rw [if_neg g]
        exact wpS_pure (hy _ _ _ _ _ m1 (by omega))
  · simp only [lt, decide_false, Bool.false_eq_true, if_false]
    refine wpS_bind (s_elem ea ?_)
    have l1 : Laid2 a b (out.push (.int (K a ia) t, p)).toList (ia + 1) ib := by
      rw [push_list]
      refine m.l.stepA ua ea fun j h1 h2 => ?_
      have := ub ib j h1 h2
      show K a ia ≤ K b j
      omega
    by_cases e : ia + 1 + 1 = a.size
    · rw [if_pos (by simpa using e)]
      refine wpS_pure (hr _ _ (l1.endB ua ub (by omega) (by omega) fun i j i1 i2 j1 j2 => ?_))
      rw [show i = a.size - 1 by omega]
      exact last j j2
    · rw [if_neg (by simpa using e)]
      have m1 : Amid a b (out.push (.int (K a ia) t, p)) (ia + 1) ib := ⟨l1, by omega, hb⟩
      by_cases g : ac + 1 ≥ mg
      · rw [if_pos g]
        exact wpS_pure (hd _ _ _ _ _ m1 (by omega))
      · rw [if_neg g]
        exact wpS_pure (hy _ _ _ _ _ m1 (by omega))
theorem s_gal3 {st1 : SortSt} {mg ac k2 ia ib : Nat} {out : AK} {Q : ForInStep G2 → SortSt → Prop} (ita : Its a) (ua : Up a) (ub : Up b) (last : ∀ j, j < b.size → K b j ≤ K a (a.size - 1)) (m : Amid a b out ia ib) (le : ∀ j, ib ≤ j → j < b.size → K a ia ≤ K b j)
    (hr : ∀ r x, Joined a b r → Q (.done (some r, x)) st1) (hd : ∀ out' ia' ib' mg' ac' bc', Amid a b out' ia' ib' → ia + ib ≤ ia' + ib' → Q (.done (none, out', ia', ib', mg', ac', bc')) st1)
    (hy : ∀ out' ia' ib' mg' ac' bc', Amid a b out' ia' ib' → ia + ib ≤ ia' + ib' → Q (.yield (none, out', ia', ib', mg', ac', bc')) st1) : wpS (model prog w) A E s (gal3 a b mg ac k2 out ia ib) Q st1 := by
  have ha := m.ha
  have hb := m.hb
  obtain ⟨t, p, ea⟩ := ita ia (by omega)
  unfold gal3
  refine wpS_bind (s_elem ea ?_)
  have l1 : Laid2 a b (out.push (.int (K a ia) t, p)).toList (ia + 1) ib := by
    rw [push_list]
    exact m.l.stepA ua ea le
  by_cases e : ia + 1 + 1 = a.size
  · rw [if_pos (by simpa using e)]
    refine wpS_pure (hr _ _ (l1.endB ua ub (by omega) (by omega) fun i j i1 i2 j1 j2 => ?_))
    rw [show i = a.size - 1 by omega]
    exact last j j2
  · rw [if_neg (by simpa using e)]
    have m1 : Amid a b (out.push (.int (K a ia) t, p)) (ia + 1) ib := ⟨l1, by omega, hb⟩
    by_cases g : (decide (ac < 7) && decide (k2 < 7)) = true
    · rw [if_pos g]
      exact wpS_pure (hd _ _ _ _ _ _ m1 (by omega))
    · rw [if_neg g]
      exact wpS_pure (hy _ _ _ _ _ _ m1 (by omega))
theorem s_gal2 {st1 : SortSt} {mg bc k ia ib : Nat} {out : AK} {Q : ForInStep G2 → SortSt → Prop} (hk : kindOf st1 = oneType') (ita : Its a) (itb : Its b) (ua : Up a) (ub : Up b) (last : ∀ j, j < b.size → K b j ≤ K a (a.size - 1)) (m : Amid a b out ia ib) (le : ∀ i, ia ≤ i → i < a.size → K b ib ≤ K a i)
    (hr : ∀ r x, Joined a b r → Q (.done (some r, x)) st1) (hd : ∀ out' ia' ib' mg' ac' bc', Amid a b out' ia' ib' → ia + ib ≤ ia' + ib' → Q (.done (none, out', ia', ib', mg', ac', bc')) st1)
    (hy : ∀ out' ia' ib' mg' ac' bc', Amid a b out' ia' ib' → ia + ib ≤ ia' + ib' → Q (.yield (none, out', ia', ib', mg', ac', bc')) st1) : wpS (model prog w) A E s (gal2 a b mg bc k out ia ib) Q st1 := by
  have ha := m.ha
  have hb := m.hb
  obtain ⟨t, p, ea⟩ := ita ia (by omega)
  obtain ⟨u, q, eb⟩ := itb ib hb
  unfold gal2
  refine wpS_bind (s_elem eb ?_)
  have l1 : Laid2 a b (out.push (.int (K b ib) u, q)).toList ia (ib + 1) := by
    rw [push_list]
    exact m.l.stepB ub eb le
  by_cases e : ib + 1 = b.size
  · rw [if_pos (by simpa using e)]
    exact wpS_pure (hr _ _ (l1.endA ua (by omega) e))
  · rw [if_neg (by simpa using e)]
    refine wpS_bind (s_elem ea (wpS_bind (s_gallop (tells_of hk itb (by omega)) (by omega) (beyond_mono ub (by omega)) fun k2 k1 lo hi => ?_)))
    dsimp only
    have blk := l1.blkB ub k2 (by omega) fun j hj i i1 i2 => by
      have h1 := beyondT.mp (lo j hj)
      have h2 := ua ia i i1 i2
      omega
    have rest : ∀ j, ib + 1 + k2 ≤ j → j < b.size → K a ia ≤ K b j := fun j j1 j2 => by
      have h1 := hi (j - (ib + 1)) (by omega) (by omega)
      rw [show ib + 1 + (j - (ib + 1)) = j by omega] at h1
      exact Int.not_lt.mp fun z => b_false h1 (beyondT.mpr z)
    rw [← Array.toList_append] at blk
    by_cases k0 : k2 > 0
    · rw [if_pos k0]
      by_cases e2 : ib + 1 + k2 = b.size
      · rw [if_pos (by simpa using e2)]
        exact wpS_pure (hr _ _ (blk.endA ua (by omega) e2))
      · rw [if_neg (by simpa using e2)]
        exact s_gal3 ita ua ub last ⟨blk, ha, by omega⟩ rest hr (fun o i j x y z m' le' => hd o i j x y z m' (by omega)) fun o i j x y z m' le' => hy o i j x y z m' (by omega)
    · rw [if_neg k0]
      have z : k2 = 0 := by omega
      subst z
      exact s_gal3 ita ua ub last ⟨l1, ha, by omega⟩ rest hr (fun o i j x y z m' le' => hd o i j x y z m' (by omega)) fun o i j x y z m' le' => hy o i j x y z m' (by omega)
theorem s_gal1 {st1 : SortSt} {mg ac bc ia ib : Nat} {out : AK} {Q : ForInStep G2 → SortSt → Prop} (hk0 : kindOf st = oneType') (al : Alike st st1) (ita : Its a) (itb : Its b) (ua : Up a) (ub : Up b) (last : ∀ j, j < b.size → K b j ≤ K a (a.size - 1)) (m : Amid a b out ia ib)
    (hr : ∀ r x st2, Alike st st2 → Joined a b r → Q (.done (some r, x)) st2) (hd : ∀ out' ia' ib' mg' ac' bc' st2, Alike st st2 → Amid a b out' ia' ib' → ia + ib ≤ ia' + ib' → Q (.done (none, out', ia', ib', mg', ac', bc')) st2)
    (hy : ∀ out' ia' ib' mg' ac' bc' st2, Alike st st2 → Amid a b out' ia' ib' → ia + ib ≤ ia' + ib' → Q (.yield (none, out', ia', ib', mg', ac', bc')) st2) : wpS (model prog w) A E s (gal1 a b mg ac bc out ia ib) Q st1 := by
  have ha := m.ha
  have hb := m.hb
  obtain ⟨u, q, eb⟩ := itb ib hb
  unfold gal1
  refine wpS_bind (s_setMG al fun st2 al2 => ?_)
  have hk : kindOf st2 = oneType' := al2.kd.trans hk0
  refine wpS_bind (s_elem eb (wpS_bind (s_gallop (tells_of hk ita (by omega)) (by omega) (beyond_mono ua (by omega)) fun k k1 lo hi => ?_)))
  dsimp only
  have blk := m.l.blkA ua k (by omega) fun i hi j j1 j2 => by
    have h1 := beyondF.mp (lo i hi)
    have h2 := ub ib j j1 j2
    omega
  have rest : ∀ i, ia + k ≤ i → i < a.size → K b ib ≤ K a i := fun i i1 i2 => by
    have h1 := hi (i - ia) (by omega) (by omega)
    rw [show ia + (i - ia) = i by omega] at h1
    exact Int.le_of_lt (Int.not_le.mp fun z => b_false h1 (beyondF.mpr z))
  rw [← Array.toList_append] at blk
  by_cases k0 : k > 0
  · rw [if_pos k0]
    by_cases e1 : ia + k + 1 = a.size
    · rw [if_pos (by simpa using e1)]
      refine wpS_pure (hr _ _ st2 al2 (blk.endB ua ub (by omega) (by omega) fun i j i1 i2 j1 j2 => ?_))
      rw [show i = a.size - 1 by omega]
      exact last j j2
    · rw [if_neg (by simpa using e1)]
      by_cases e2 : ia + k = a.size
      · rw [if_pos (by simpa using e2)]
        have h1 := beyondF.mp (lo (k - 1) (by omega))
        rw [show ia + (k - 1) = a.size - 1 by omega] at h1
        refine wpS_pure (hr _ _ st2 al2 ?_)
        have h2 := blk.endB ua ub (by omega) (by omega) fun i j i1 i2 j1 j2 => absurd i1 (by omega)
        have e3 : dnA a b (out ++ a.extract ia (ia + k)) (ia + k) ib = lsA a b (out ++ a.extract ia (ia + k)) (ia + k) ib := by
          unfold dnA lsA
          rw [e2]
          simp
        rw [e3]
        exact h2
      · rw [if_neg (by simpa using e2)]
        exact s_gal2 hk ita itb ua ub last ⟨blk, by omega, hb⟩ rest (fun r x j => hr r x st2 al2 j) (fun o i j x y z m' le' => hd o i j x y z st2 al2 m' (by omega)) fun o i j x y z m' le' => hy o i j x y z st2 al2 m' (by omega)
  · rw [if_neg k0]
    have z : k = 0 := by omega
    subst z
    exact s_gal2 hk ita itb ua ub last m rest (fun r x j => hr r x st2 al2 j) (fun o i j x y z m' le' => hd o i j x y z st2 al2 m' le') fun o i j x y z m' le' => hy o i j x y z st2 al2 m' le'
set_option maxHeartbeats 1000000 in
theorem s_lap {st1 : SortSt} {mg ia ib : Nat} {out : AK} {o : Option AK} {Q : ForInStep G0 → SortSt → Prop} (hk0 : kindOf st = oneType') (al : Alike st st1) (ita : Its a) (itb : Its b) (ua : Up a) (ub : Up b) (last : ∀ j, j < b.size → K b j ≤ K a (a.size - 1)) (m : Amid a b out ia ib)
    (hr : ∀ r x st2, Alike st st2 → Joined a b r → Q (.done (some r, x)) st2)
    (hy : ∀ out' ia' ib' mg' st2, Alike st st2 → Amid a b out' ia' ib' → ia + ib < ia' + ib' → Q (.yield (none, out', ia', ib', mg')) st2) : wpS (model prog w) A E s (lap a b (o, out, ia, ib, mg)) Q st1 := by
  have ha := m.ha
  have hb := m.hb
  have hk1 : kindOf st1 = oneType' := al.kd.trans hk0
  unfold lap
  refine wpS_bind (wpS_mono (wpS_forRange (Q := fun c st' => st' = st1 ∧ ((∃ r x, c = (some r, x) ∧ Joined a b r) ∨ ∃ out' ia' ib' ac' bc', c = (none, out', ia', ib', ac', bc') ∧ Amid a b out' ia' ib' ∧ ia + ib < ia' + ib'))
    (fun x c st' => st' = st1 ∧ ∃ out' ia' ib' ac' bc', c = (none, out', ia', ib', ac', bc') ∧ Amid a b out' ia' ib' ∧ ia + ib + min x 1 ≤ ia' + ib') ?_ ?_ ⟨rfl, out, ia, ib, 0, 0, rfl, m, by omega⟩) ?_)
  · rintro x c st2 _ hx ⟨rfl, out', ia', ib', ac', bc', rfl, m', le⟩
    refine s_pick hk1 ita itb ua ub last m' (fun r x j => ⟨rfl, .inl ⟨r, x, rfl, j⟩⟩) (fun o2 i2 j2 a2 b2 m2 l2 => ⟨rfl, .inr ⟨o2, i2, j2, a2, b2, rfl, m2, by omega⟩⟩) fun o2 i2 j2 a2 b2 m2 l2 => ⟨rfl, o2, i2, j2, a2, b2, rfl, m2, by omega⟩
  · rintro c st2 ⟨rfl, out', ia', ib', ac', bc', rfl, m', le⟩
    exact ⟨rfl, .inr ⟨out', ia', ib', ac', bc', rfl, m', by omega⟩⟩
  · rintro c st2 ⟨rfl, ⟨r, x, rfl, j⟩ | ⟨out', ia', ib', ac', bc', rfl, m', le⟩⟩
    · exact wpS_pure (hr _ _ _ al j)
    · dsimp only
      refine wpS_bind (wpS_lift (wpAny_rule ⟨rfl, ?_⟩))
      refine wpS_bind (wpS_mono (wpS_forRange (Q := fun c st' => Alike st st' ∧ ((∃ r x, c = (some r, x) ∧ Joined a b r) ∨ ∃ out' ia' ib' mg' ac' bc', c = (none, out', ia', ib', mg', ac', bc') ∧ Amid a b out' ia' ib' ∧ ia + ib < ia' + ib'))
        (fun x c st' => Alike st st' ∧ ∃ out' ia' ib' mg' ac' bc', c = (none, out', ia', ib', mg', ac', bc') ∧ Amid a b out' ia' ib' ∧ ia + ib < ia' + ib') ?_ ?_ ⟨al, out', ia', ib', mg + 1, ac', bc', rfl, m', le⟩) ?_)
      · rintro x c st3 _ hx ⟨al3, o3, i3, j3, g3, a3, b3, rfl, m3, le3⟩
        unfold gal
        dsimp only
        by_cases g1 : g3 > 1
        · rw [if_pos g1]
          exact s_gal1 hk0 al3 ita itb ua ub last m3 (fun r x st4 al4 j => ⟨al4, .inl ⟨r, x, rfl, j⟩⟩) (fun o4 i4 j4 g4 a4 b4 st4 al4 m4 l4 => ⟨al4, .inr ⟨o4, i4, j4, g4, a4, b4, rfl, m4, by omega⟩⟩) fun o4 i4 j4 g4 a4 b4 st4 al4 m4 l4 => ⟨al4, o4, i4, j4, g4, a4, b4, rfl, m4, by omega⟩
        · rw [if_neg g1]
          exact s_gal1 hk0 al3 ita itb ua ub last m3 (fun r x st4 al4 j => ⟨al4, .inl ⟨r, x, rfl, j⟩⟩) (fun o4 i4 j4 g4 a4 b4 st4 al4 m4 l4 => ⟨al4, .inr ⟨o4, i4, j4, g4, a4, b4, rfl, m4, by omega⟩⟩) fun o4 i4 j4 g4 a4 b4 st4 al4 m4 l4 => ⟨al4, o4, i4, j4, g4, a4, b4, rfl, m4, by omega⟩
      · rintro c st3 ⟨al3, o3, i3, j3, g3, a3, b3, rfl, m3, le3⟩
        exact ⟨al3, .inr ⟨o3, i3, j3, g3, a3, b3, rfl, m3, le3⟩⟩
      · rintro c st3 ⟨al3, ⟨r, x, rfl, j⟩ | ⟨o3, i3, j3, g3, a3, b3, rfl, m3, le3⟩⟩
        · exact wpS_pure (hr _ _ _ al3 j)
        · dsimp only
          exact wpS_bind (s_setMG al3 fun st4 al4 => wpS_pure (hy _ _ _ _ _ al4 m3 le3))
theorem s_mergeLo {Q : AK → SortSt → Prop} (hk : kindOf st = oneType') (ita : Its a) (itb : Its b) (ua : Up a) (ub : Up b) (na : 1 ≤ a.size) (nb : 1 ≤ b.size) (first : ∀ i, i < a.size → K b 0 ≤ K a i) (last : ∀ j, j < b.size → K b j ≤ K a (a.size - 1))
    (h : ∀ r st', Alike st st' → Joined a b r → Q r st') : wpS (model prog w) A E s (mergeLoM a b) Q st := by
  rw [lo_is]
  refine wpS_bind (wpS_lift (wpAny_rule ⟨rfl, ?_⟩))
  obtain ⟨u, q, eb⟩ := itb 0 (by omega)
  refine wpS_bind (s_elem eb ?_)
  have l0 : Laid2 a b ([] : List Keyed) 0 0 := ⟨by simp, List.Pairwise.nil, fun p hp => absurd hp (by simp), fun p hp => absurd hp (by simp)⟩
  have l1 : Laid2 a b (#[(.int (K b 0) u, q)] : AK).toList 0 1 := l0.stepB ub eb fun i _ h2 => first i h2
  by_cases e1 : 1 = b.size
  · rw [if_pos (by simpa using e1)]
    exact wpS_pure (h _ _ (Alike.refl _) (l1.endA ua (by omega) e1))
  · rw [if_neg (by simpa using e1)]
    by_cases e2 : 0 + 1 = a.size
    · rw [if_pos (by simpa using e2)]
      refine wpS_pure (h _ _ (Alike.refl _) (l1.endB ua ub (by omega) (by omega) fun i j i1 i2 j1 j2 => ?_))
      rw [show i = a.size - 1 by omega]
      exact last j j2
    · rw [if_neg (by simpa using e2)]
      refine wpS_bind (wpS_get ?_)
      refine wpS_bind (wpS_mono (wpS_forRange (Q := fun c st' => Alike st st' ∧ ∃ r x, c = (some r, x) ∧ Joined a b r)
        (fun x c st' => Alike st st' ∧ ∃ out' ia' ib' mg', c = (none, out', ia', ib', mg') ∧ Amid a b out' ia' ib' ∧ x < ia' + ib') ?_ ?_ ⟨Alike.refl _, _, 0, 1, _, rfl, ⟨l1, by omega, by omega⟩, by omega⟩) ?_)
      · rintro x c st2 _ hx ⟨al2, o2, i2, j2, g2, rfl, m2, le2⟩
        exact s_lap hk al2 ita itb ua ub last m2 (fun r x st3 al3 j => ⟨al3, r, x, rfl, j⟩) fun o3 i3 j3 g3 st3 al3 m3 l3 => ⟨al3, o3, i3, j3, g3, rfl, m3, by omega⟩
      · rintro c st2 ⟨al2, o2, i2, j2, g2, rfl, m2, le2⟩
        have := m2.ha
        have := m2.hb
        omega
      · rintro c st2 ⟨al2, r, x, rfl, j⟩
        exact wpS_pure (h _ _ al2 j)
end
end L2
namespace L2
open PySem PyProof.Rows
structure LaidH (a b : AK) (L : List Keyed) (na nb : Nat) : Prop where
  pm : L.Perm (a.toList.drop na ++ b.toList.drop nb)
  so : L.Pairwise fun p q => ky p ≤ ky q
  la : ∀ p ∈ L, ∀ i, i < na → K a i ≤ ky p
  lb : ∀ p ∈ L, ∀ j, j < nb → K b j ≤ ky p
theorem drop_cons {xs : AK} {i : Nat} {p : Keyed} (h : xs[i]? = some p) : xs.toList.drop i = p :: xs.toList.drop (i + 1) := by
  have hl := (Array.getElem?_eq_some_iff.mp h).1
  rw [List.drop_eq_getElem_cons (by simpa using hl)]
  congr 1
  have := (Array.getElem?_eq_some_iff.mp h).2
  simpa using this
theorem LaidH.stepA {a b : AK} {L : List Keyed} {n nb : Nat} {p : Keyed} (h : LaidH a b L (n + 1) nb) (ua : Up a) (hp : a[n]? = some p) (hb : ∀ j, j < nb → K b j ≤ ky p) : LaidH a b (p :: L) n nb := by
  have hl := (Array.getElem?_eq_some_iff.mp hp).1
  have ek := ky_at hp
  refine ⟨?_, ?_, fun q hq i hi => ?_, fun q hq j hj => ?_⟩
  · rw [drop_cons hp]
    exact h.pm.cons p
  · exact List.pairwise_cons.mpr ⟨fun q hq => by rw [← ek]; exact h.la q hq n (Nat.lt_succ_self _), h.so⟩
  · rcases List.mem_cons.mp hq with y | y
    · rw [y, ← ek]; exact ua i n (by omega) hl
    · exact h.la q y i (by omega)
  · rcases List.mem_cons.mp hq with y | y
    · rw [y]; exact hb j hj
    · exact h.lb q y j hj
theorem LaidH.stepB {a b : AK} {L : List Keyed} {na n : Nat} {p : Keyed} (h : LaidH a b L na (n + 1)) (ub : Up b) (hp : b[n]? = some p) (ha : ∀ i, i < na → K a i ≤ ky p) : LaidH a b (p :: L) na n := by
  have hl := (Array.getElem?_eq_some_iff.mp hp).1
  have ek := ky_at hp
  refine ⟨?_, ?_, fun q hq i hi => ?_, fun q hq j hj => ?_⟩
  · rw [drop_cons hp]
    exact (h.pm.cons p).trans List.perm_middle.symm
  · exact List.pairwise_cons.mpr ⟨fun q hq => by rw [← ek]; exact h.lb q hq n (Nat.lt_succ_self _), h.so⟩
  · rcases List.mem_cons.mp hq with y | y
    · rw [y]; exact ha i hi
    · exact h.la q y i hi
  · rcases List.mem_cons.mp hq with y | y
    · rw [y, ← ek]; exact ub j n (by omega) hl
    · exact h.lb q y j (by omega)
theorem ext_cons {xs : AK} {i m : Nat} {p : Keyed} (h : xs[i]? = some p) (hm : i + 1 ≤ m) : (xs.extract i m).toList = p :: (xs.extract (i + 1) m).toList := by
  simp only [Array.toList_extract, List.extract_eq_take_drop]
  rw [drop_cons h, show m - i = (m - (i + 1)) + 1 by omega, List.take_succ_cons]
theorem LaidH.blkA {a b : AK} {L : List Keyed} {n nb : Nat} (ua : Up a) (hn : n ≤ a.size) (h : LaidH a b L n nb) : ∀ k, k ≤ n → (∀ i, n - k ≤ i → i < n → ∀ j, j < nb → K b j ≤ K a i) → LaidH a b ((a.extract (n - k) n).toList ++ L) (n - k) nb
  | 0, _, _ => by simpa using h
  | k + 1, hk, hb => by
    have h1 := LaidH.blkA ua hn h k (by omega) fun i i1 => hb i (by omega)
    obtain ⟨p, hp⟩ : ∃ p, a[n - (k + 1)]? = some p := ⟨_, Array.getElem?_eq_getElem (by omega)⟩
    rw [ext_cons hp (by omega), show n - (k + 1) + 1 = n - k by omega, List.cons_append]
    have h2 : LaidH a b ((a.extract (n - k) n).toList ++ L) (n - (k + 1) + 1) nb := by rw [show n - (k + 1) + 1 = n - k by omega]; exact h1
    exact h2.stepA ua hp fun j hj => by rw [← ky_at hp]; exact hb _ (Nat.le_refl _) (by omega) j hj
theorem LaidH.blkB {a b : AK} {L : List Keyed} {na n : Nat} (ub : Up b) (hn : n ≤ b.size) (h : LaidH a b L na n) : ∀ k, k ≤ n → (∀ j, n - k ≤ j → j < n → ∀ i, i < na → K a i ≤ K b j) → LaidH a b ((b.extract (n - k) n).toList ++ L) na (n - k)
  | 0, _, _ => by simpa using h
  | k + 1, hk, ha => by
    have h1 := LaidH.blkB ub hn h k (by omega) fun i i1 => ha i (by omega)
    obtain ⟨p, hp⟩ : ∃ p, b[n - (k + 1)]? = some p := ⟨_, Array.getElem?_eq_getElem (by omega)⟩
    rw [ext_cons hp (by omega), show n - (k + 1) + 1 = n - k by omega, List.cons_append]
    have h2 : LaidH a b ((b.extract (n - k) n).toList ++ L) na (n - (k + 1) + 1) := by rw [show n - (k + 1) + 1 = n - k by omega]; exact h1
    exact h2.stepB ub hp fun i hi => by rw [← ky_at hp]; exact ha _ (Nat.le_refl _) (by omega) i hi
def dnH (a b out : AK) (na nb : Nat) : AK := a.extract 0 na ++ b.extract 0 nb ++ out.reverse
def fsH (a b out : AK) (na nb : Nat) : AK := b.extract 0 nb ++ a.extract 0 na ++ out.reverse
theorem LaidH.all {a b : AK} {L : List Keyed} (h : LaidH a b L 0 0) : L.Perm (a.toList ++ b.toList) ∧ L.Pairwise fun p q => ky p ≤ ky q := ⟨by have := h.pm; rwa [List.drop_zero, List.drop_zero] at this, h.so⟩
/-- what is left of b first -/
theorem LaidH.endF {a b out : AK} {na nb : Nat} (h : LaidH a b out.toList.reverse na nb) (ua : Up a) (ub : Up b) (hi : na ≤ a.size) (hj : nb ≤ b.size) (le : ∀ i j, i < na → j < nb → K b j ≤ K a i) : Joined a b (fsH a b out na nb) := by
  have h1 := h.blkA ua hi na (Nat.le_refl _) fun i _ i2 j hj => le i j i2 hj
  rw [Nat.sub_self] at h1
  have h2 := h1.blkB ub hj nb (Nat.le_refl _) fun j _ _ i hi => absurd hi (Nat.not_lt_zero _)
  rw [Nat.sub_self] at h2
  unfold Joined fsH
  rw [Array.toList_append, Array.toList_append, Array.toList_reverse, List.append_assoc]
  exact h2.all
theorem LaidH.endD {a b out : AK} {na nb : Nat} (h : LaidH a b out.toList.reverse na nb) (ua : Up a) (ub : Up b) (hi : na ≤ a.size) (hj : nb ≤ b.size) (z : na = 0 ∨ nb = 0) : Joined a b (dnH a b out na nb) := by
  have h1 := h.blkB ub hj nb (Nat.le_refl _) fun j _ j2 i hi => absurd hi (by omega)
  rw [Nat.sub_self] at h1
  have h2 := h1.blkA ua hi na (Nat.le_refl _) fun i _ _ j hj => absurd hj (Nat.not_lt_zero _)
  rw [Nat.sub_self] at h2
  unfold Joined dnH
  rw [Array.toList_append, Array.toList_append, Array.toList_reverse, List.append_assoc]
  exact h2.all
def mergeHiM : AK → AK → StateT SortSt Sem AK := sortPriv% PySem.Builtin.mergeHi
abbrev H0 := Option AK × Nat × Nat × AK × Nat
abbrev H1 := Option AK × Nat × Nat × AK × Nat × Nat
abbrev H2 := Option AK × Nat × Nat × AK × Nat × Nat × Nat
def pickH (a b : AK) (mg : Nat) : H1 → StateT SortSt Sem (ForInStep H1) := fun (_, na, nb, out, ac, bc) =>
  elem' b (nb - 1) >>= fun y => elem' a (na - 1) >>= fun x => lt' y x >>= fun r? => match r? with
    | some r => if r = true then (elem' a (na - 1) >>= fun x => if (na - 1 == 0) = true then pure (.done (some (dnH a b (out.push x) (na - 1) nb), na - 1, nb, out.push x, ac + 1, 0))
          else if ac + 1 ≥ mg then pure (.done (none, na - 1, nb, out.push x, ac + 1, 0)) else pure (.yield (none, na - 1, nb, out.push x, ac + 1, 0)))
        else (elem' b (nb - 1) >>= fun y => if (nb - 1 == 1) = true then pure (.done (some (fsH a b (out.push y) na (nb - 1)), na, nb - 1, out.push y, 0, bc + 1))
          else if bc + 1 ≥ mg then pure (.done (none, na, nb - 1, out.push y, 0, bc + 1)) else pure (.yield (none, na, nb - 1, out.push y, 0, bc + 1)))
    | _ => pure (.done (some (dnH a b out na nb), na, nb, out, ac, bc))
def galH3 (a b : AK) (mg ac k2 : Nat) (na nb : Nat) (out : AK) : StateT SortSt Sem (ForInStep H2) :=
  elem' a (na - 1) >>= fun x => if (na - 1 == 0) = true then pure (.done (some (dnH a b (out.push x) (na - 1) nb), na - 1, nb, out.push x, mg, ac, k2))
    else if (decide (ac < 7) && decide (k2 < 7)) = true then pure (.done (none, na - 1, nb, out.push x, mg, ac, k2)) else pure (.yield (none, na - 1, nb, out.push x, mg, ac, k2))
def galH2 (a b : AK) (mg bc k : Nat) (na nb : Nat) (out : AK) : StateT SortSt Sem (ForInStep H2) :=
  elem' b (nb - 1) >>= fun y => if (nb - 1 == 1) = true then pure (.done (some (fsH a b (out.push y) na (nb - 1)), na, nb - 1, out.push y, mg, k, bc)) else
    elem' a (na - 1) >>= fun x => gallopM true x b 0 (nb - 1) (nb - 1 - 1) >>= fun k? => match k? with
      | some at2 => if nb - 1 - at2 > 0 then (if (at2 == 1) = true then pure (.done (some (fsH a b (out.push y ++ (b.extract at2 (nb - 1)).reverse) na at2), na, at2, out.push y ++ (b.extract at2 (nb - 1)).reverse, mg, k, nb - 1 - at2))
            else if (at2 == 0) = true then pure (.done (some (dnH a b (out.push y ++ (b.extract at2 (nb - 1)).reverse) na at2), na, at2, out.push y ++ (b.extract at2 (nb - 1)).reverse, mg, k, nb - 1 - at2))
            else galH3 a b mg k (nb - 1 - at2) na at2 (out.push y ++ (b.extract at2 (nb - 1)).reverse))
          else galH3 a b mg k (nb - 1 - at2) na (nb - 1) (out.push y)
      | _ => pure (.done (some (dnH a b (out.push y) na (nb - 1)), na, nb - 1, out.push y, mg, k, bc))
def galH1 (a b : AK) (mg ac bc : Nat) (na nb : Nat) (out : AK) : StateT SortSt Sem (ForInStep H2) :=
  setMG mg >>= fun _ => elem' b (nb - 1) >>= fun y => gallopM false y a 0 na (na - 1) >>= fun k? => match k? with
    | some at1 => if na - at1 > 0 then (if (at1 == 0) = true then pure (.done (some (dnH a b (out ++ (a.extract at1 na).reverse) at1 nb), at1, nb, out ++ (a.extract at1 na).reverse, mg, na - at1, bc))
          else galH2 a b mg bc (na - at1) at1 nb (out ++ (a.extract at1 na).reverse))
        else galH2 a b mg bc (na - at1) na nb out
    | _ => pure (.done (some (dnH a b out na nb), na, nb, out, mg, ac, bc))
def galH (a b : AK) : H2 → StateT SortSt Sem (ForInStep H2) := fun (_, na, nb, out, mg, ac, bc) => if mg > 1 then galH1 a b (mg - 1) ac bc na nb out else galH1 a b mg ac bc na nb out
def lapH (a b : AK) : H0 → StateT SortSt Sem (ForInStep H0) := fun (_, na, nb, out, mg) =>
  (forIn [0:a.size + b.size] ((none, na, nb, out, 0, 0) : H1) fun _ d => pickH a b mg d) >>= fun d => match d.1 with
    | some r => pure (.done (some r, d.2.1, d.2.2.1, d.2.2.2.1, mg))
    | none => (liftM (rule "list.sort.gallop") : StateT SortSt Sem Unit) >>= fun _ =>
      (forIn [0:a.size + b.size] ((none, d.2.1, d.2.2.1, d.2.2.2.1, mg + 1, d.2.2.2.2.1, d.2.2.2.2.2) : H2) fun _ e => galH a b e) >>= fun e => match e.1 with
        | some r => pure (.done (some r, e.2.1, e.2.2.1, e.2.2.2.1, e.2.2.2.2.1))
        | none => setMG (e.2.2.2.2.1 + 1) >>= fun _ => pure (.yield (none, e.2.1, e.2.2.1, e.2.2.2.1, e.2.2.2.2.1 + 1))
set_option maxHeartbeats 2000000 in
theorem hi_is (a b : AK) : mergeHiM a b = ((liftM (rule "list.sort.merge-hi") : StateT SortSt Sem Unit) >>= fun _ => elem' a (a.size - 1) >>= fun x => if (a.size - 1 == 0) = true then pure (dnH a b #[x] (a.size - 1) b.size)
    else if (b.size == 1) = true then pure (fsH a b #[x] (a.size - 1) b.size) else (get : StateT SortSt Sem SortSt) >>= fun s0 =>
      (forIn [0:a.size + b.size] ((none, a.size - 1, b.size, #[x], gallopOf s0) : H0) fun _ c => lapH a b c) >>= fun c => match c.1 with
        | some r => pure r
        | none => (liftM (unsupported "internal:list.sort.merge-bound") : StateT SortSt Sem AK)) := by
  refine bind_congr fun _ => bind_congr fun y => ?_
  refine ite_congr rfl (fun _ => rfl) fun _ => ite_congr rfl (fun _ => rfl) fun _ => bind_congr fun s0 => ?_
  refine (bind_congr fun c => ?_).trans (congrArg (fun z : StateT SortSt Sem H0 => z >>= fun c => match c.1 with
        | some r => pure r
        | none => (liftM (unsupported "internal:list.sort.merge-bound") : StateT SortSt Sem AK)) (congrArg (forIn [0:a.size + b.size] ((none, a.size - 1, b.size, #[y], gallopOf s0) : H0)) (funext fun i => funext fun c => ?_)))
  · obtain ⟨r, c⟩ := c
    cases r <;> rfl
  · obtain ⟨r, na, nb, out, mg⟩ := c
    refine (bind_congr fun d => ?_).trans (congrArg (fun z : StateT SortSt Sem H1 => z >>= _) (congrArg (forIn [0:a.size + b.size] ((none, na, nb, out, 0, 0) : H1)) (funext fun i => funext fun c => ?_)))
    · obtain ⟨r, na, nb, out, ac, bc⟩ := d
      cases r with
      | some r => rfl
      | none =>
        refine bind_congr fun _ => ?_
        refine (bind_congr fun e => ?_).trans (congrArg (fun z : StateT SortSt Sem H2 => z >>= _) (congrArg (forIn [0:a.size + b.size] ((none, na, nb, out, mg + 1, ac, bc) : H2)) (funext fun i => funext fun c => ?_)))
        · obtain ⟨r, na, nb, out, mg, ac, bc⟩ := e
          cases r <;> rfl
        · obtain ⟨r, na, nb, out, mg, ac, bc⟩ := c
          exact ite_congr rfl (fun _ => rfl) fun _ => rfl
    · obtain ⟨r, na, nb, out, ac, bc⟩ := c
      refine bind_congr fun y => bind_congr fun x => bind_congr fun r? => ?_
      cases r? <;> rfl
end L2
namespace L2
open PySem PyProof.Rows
theorem rev_push (out : AK) (p : Keyed) : (out.push p).toList.reverse = p :: out.toList.reverse := by simp
theorem rev_app (out e : AK) : (out ++ e.reverse).toList.reverse = e.toList ++ out.toList.reverse := by simp
structure AmidH (a b out : AK) (na nb : Nat) : Prop where
  l : LaidH a b out.toList.reverse na nb
  ha : 1 ≤ na
  hb : 2 ≤ nb
  sa : na ≤ a.size
  sb : nb ≤ b.size
section
variable {prog : Program} {w : World} {A : Around} {E : Value → Shared → Prop} {s : Shared} {a b : AK} {st : SortSt}
theorem s_pickH {st1 : SortSt} {mg na nb ac bc : Nat} {out : AK} {o : Option AK} {Q : ForInStep H1 → SortSt → Prop} (hk : kindOf st1 = oneType') (ita : Its a) (itb : Its b) (ua : Up a) (ub : Up b) (first : ∀ i, i < a.size → K b 0 ≤ K a i) (m : AmidH a b out na nb)
    (hr : ∀ r x, Joined a b r → Q (.done (some r, x)) st1) (hd : ∀ na' nb' out' ac' bc', AmidH a b out' na' nb' → na' + nb' < na + nb → Q (.done (none, na', nb', out', ac', bc')) st1)
    (hy : ∀ na' nb' out' ac' bc', AmidH a b out' na' nb' → na' + nb' < na + nb → Q (.yield (none, na', nb', out', ac', bc')) st1) : wpS (model prog w) A E s (pickH a b mg (o, na, nb, out, ac, bc)) Q st1 := by
  obtain ⟨l, ha, hb, sa, sb⟩ := m
  obtain ⟨t, p, ea⟩ := ita (na - 1) (by omega)
  obtain ⟨u, q, eb⟩ := itb (nb - 1) (by omega)
  unfold pickH
  refine wpS_bind (s_elem eb (wpS_bind (s_elem ea (wpS_bind (s_lt2 hk ?_)))))
  by_cases lt : K b (nb - 1) < K a (na - 1)
  · simp only [lt, decide_true, if_true]
    refine wpS_bind (s_elem ea ?_)
    have l1 : LaidH a b (out.push (.int (K a (na - 1)) t, p)).toList.reverse (na - 1) nb := by
      rw [rev_push]
      refine LaidH.stepA (by rw [show na - 1 + 1 = na by omega]; exact l) ua ea fun j hj => ?_
      have := ub j (nb - 1) (by omega) (by omega)
      show K b j ≤ K a (na - 1)
      omega
    by_cases e : na - 1 = 0
    · rw [if_pos (by simpa using e)]
      exact wpS_pure (hr _ _ (l1.endD ua ub (by omega) sb (.inl e)))
    · rw [if_neg (by simpa using e)]
      have m1 : AmidH a b (out.push (.int (K a (na - 1)) t, p)) (na - 1) nb := ⟨l1, by omega, hb, by omega, sb⟩
      by_cases g : ac + 1 ≥ mg
      · rw [if_pos g]
        exact wpS_pure (hd _ _ _ _ _ m1 (by omega))
      · rw [if_neg g]
        exact wpS_pure (hy _ _ _ _ _ m1 (by omega))
  · simp only [lt, decide_false, Bool.false_eq_true, if_false]
    refine wpS_bind (s_elem eb ?_)
    have l1 : LaidH a b (out.push (.int (K b (nb - 1)) u, q)).toList.reverse na (nb - 1) := by
      rw [rev_push]
      refine LaidH.stepB (by rw [show nb - 1 + 1 = nb by omega]; exact l) ub eb fun i hi => ?_
      have := ua i (na - 1) (by omega) (by omega)
      show K a i ≤ K b (nb - 1)
      omega
    by_cases e : nb - 1 = 1
    · rw [if_pos (by simpa using e)]
      refine wpS_pure (hr _ _ (l1.endF ua ub sa (by omega) fun i j hi hj => ?_))
      rw [show j = 0 by omega]
      exact first i (by omega)
    · rw [if_neg (by simpa using e)]
      have m1 : AmidH a b (out.push (.int (K b (nb - 1)) u, q)) na (nb - 1) := ⟨l1, ha, by omega, sa, by omega⟩
      by_cases g : bc + 1 ≥ mg
      · rw [if_pos g]
        exact wpS_pure (hd _ _ _ _ _ m1 (by omega))
      · rw [if_neg g]
        exact wpS_pure (hy _ _ _ _ _ m1 (by omega))
theorem s_galH3 {st1 : SortSt} {mg ac k2 na nb : Nat} {out : AK} {Q : ForInStep H2 → SortSt → Prop} (ita : Its a) (ua : Up a) (ub : Up b) (m : AmidH a b out na nb) (le : ∀ j, j < nb → K b j ≤ K a (na - 1))
    (hr : ∀ r x, Joined a b r → Q (.done (some r, x)) st1) (hd : ∀ na' nb' out' mg' ac' bc', AmidH a b out' na' nb' → na' + nb' ≤ na + nb → Q (.done (none, na', nb', out', mg', ac', bc')) st1)
    (hy : ∀ na' nb' out' mg' ac' bc', AmidH a b out' na' nb' → na' + nb' ≤ na + nb → Q (.yield (none, na', nb', out', mg', ac', bc')) st1) : wpS (model prog w) A E s (galH3 a b mg ac k2 na nb out) Q st1 := by
  obtain ⟨l, ha, hb, sa, sb⟩ := m
  obtain ⟨t, p, ea⟩ := ita (na - 1) (by omega)
  unfold galH3
  refine wpS_bind (s_elem ea ?_)
  have l1 : LaidH a b (out.push (.int (K a (na - 1)) t, p)).toList.reverse (na - 1) nb := by
    rw [rev_push]
    exact LaidH.stepA (by rw [show na - 1 + 1 = na by omega]; exact l) ua ea le
  by_cases e : na - 1 = 0
  · rw [if_pos (by simpa using e)]
    exact wpS_pure (hr _ _ (l1.endD ua ub (by omega) sb (.inl e)))
  · rw [if_neg (by simpa using e)]
    have m1 : AmidH a b (out.push (.int (K a (na - 1)) t, p)) (na - 1) nb := ⟨l1, by omega, hb, by omega, sb⟩
    by_cases g : (decide (ac < 7) && decide (k2 < 7)) = true
    · rw [if_pos g]
      exact wpS_pure (hd _ _ _ _ _ _ m1 (by omega))
    · rw [if_neg g]
      exact wpS_pure (hy _ _ _ _ _ _ m1 (by omega))
theorem s_galH2 {st1 : SortSt} {mg bc k na nb : Nat} {out : AK} {Q : ForInStep H2 → SortSt → Prop} (hk : kindOf st1 = oneType') (ita : Its a) (itb : Its b) (ua : Up a) (ub : Up b) (first : ∀ i, i < a.size → K b 0 ≤ K a i) (m : AmidH a b out na nb) (le : ∀ i, i < na → K a i ≤ K b (nb - 1))
    (hr : ∀ r x, Joined a b r → Q (.done (some r, x)) st1) (hd : ∀ na' nb' out' mg' ac' bc', AmidH a b out' na' nb' → na' + nb' ≤ na + nb → Q (.done (none, na', nb', out', mg', ac', bc')) st1)
    (hy : ∀ na' nb' out' mg' ac' bc', AmidH a b out' na' nb' → na' + nb' ≤ na + nb → Q (.yield (none, na', nb', out', mg', ac', bc')) st1) : wpS (model prog w) A E s (galH2 a b mg bc k na nb out) Q st1 := by
  obtain ⟨l, ha, hb, sa, sb⟩ := m
  obtain ⟨t, p, ea⟩ := ita (na - 1) (by omega)
  obtain ⟨u, q, eb⟩ := itb (nb - 1) (by omega)
  unfold galH2
  refine wpS_bind (s_elem eb ?_)
  have l1 : LaidH a b (out.push (.int (K b (nb - 1)) u, q)).toList.reverse na (nb - 1) := by
    rw [rev_push]
    exact LaidH.stepB (by rw [show nb - 1 + 1 = nb by omega]; exact l) ub eb le
  by_cases e : nb - 1 = 1
  · rw [if_pos (by simpa using e)]
    refine wpS_pure (hr _ _ (l1.endF ua ub sa (by omega) fun i j hi hj => ?_))
    rw [show j = 0 by omega]
    exact first i (by omega)
  · rw [if_neg (by simpa using e)]
    refine wpS_bind (s_elem ea (wpS_bind (s_gallop (tells_of hk itb (by omega)) (by omega) (beyond_mono ub (by omega)) fun k2 k1 lo hi => ?_)))
    dsimp only
    have rest : ∀ j, k2 ≤ j → j < nb - 1 → ∀ i, i < na → K a i ≤ K b j := fun j j1 j2 i i2 => by
      have h1 := hi j j1 j2
      rw [Nat.zero_add] at h1
      have h2 : K a (na - 1) ≤ K b j := Int.not_lt.mp fun z => b_false h1 (beyondT.mpr z)
      have h3 := ua i (na - 1) (by omega) (by omega)
      omega
    have low : ∀ j, j < k2 → K b j ≤ K a (na - 1) := fun j hj => by
      have h1 := beyondT.mp (lo j hj)
      rw [Nat.zero_add] at h1
      omega
    have blk := l1.blkB ub (by omega) (nb - 1 - k2) (by omega) fun j j1 j2 i hi => rest j (by omega) j2 i hi
    rw [show nb - 1 - (nb - 1 - k2) = k2 by omega, ← rev_app] at blk
    by_cases k0 : nb - 1 - k2 > 0
    · rw [if_pos k0]
      by_cases e1 : k2 = 1
      · rw [if_pos (by simpa using e1)]
        refine wpS_pure (hr _ _ (blk.endF ua ub sa (by omega) fun i j hi hj => ?_))
        rw [show j = 0 by omega]
        exact first i (by omega)
      · rw [if_neg (by simpa using e1)]
        by_cases e2 : k2 = 0
        · rw [if_pos (by simpa using e2)]
          exact wpS_pure (hr _ _ (blk.endD ua ub sa (by omega) (.inr e2)))
        · rw [if_neg (by simpa using e2)]
          exact s_galH3 ita ua ub ⟨blk, ha, by omega, sa, by omega⟩ low hr (fun i j o x y z m' le' => hd i j o x y z m' (by omega)) fun i j o x y z m' le' => hy i j o x y z m' (by omega)
    · rw [if_neg k0]
      exact s_galH3 ita ua ub ⟨l1, ha, by omega, sa, by omega⟩ (fun j hj => low j (by omega)) hr (fun i j o x y z m' le' => hd i j o x y z m' (by omega)) fun i j o x y z m' le' => hy i j o x y z m' (by omega)
theorem s_galH1 {st1 : SortSt} {mg ac bc na nb : Nat} {out : AK} {Q : ForInStep H2 → SortSt → Prop} (hk0 : kindOf st = oneType') (al : Alike st st1) (ita : Its a) (itb : Its b) (ua : Up a) (ub : Up b) (first : ∀ i, i < a.size → K b 0 ≤ K a i) (m : AmidH a b out na nb)
    (hr : ∀ r x st2, Alike st st2 → Joined a b r → Q (.done (some r, x)) st2) (hd : ∀ na' nb' out' mg' ac' bc' st2, Alike st st2 → AmidH a b out' na' nb' → na' + nb' ≤ na + nb → Q (.done (none, na', nb', out', mg', ac', bc')) st2)
    (hy : ∀ na' nb' out' mg' ac' bc' st2, Alike st st2 → AmidH a b out' na' nb' → na' + nb' ≤ na + nb → Q (.yield (none, na', nb', out', mg', ac', bc')) st2) : wpS (model prog w) A E s (galH1 a b mg ac bc na nb out) Q st1 := by
  have m0 := m
  obtain ⟨l, ha, hb, sa, sb⟩ := m
  obtain ⟨u, q, eb⟩ := itb (nb - 1) (by omega)
  unfold galH1
  refine wpS_bind (s_setMG al fun st2 al2 => ?_)
  have hk : kindOf st2 = oneType' := al2.kd.trans hk0
  refine wpS_bind (s_elem eb (wpS_bind (s_gallop (tells_of hk ita (by omega)) (by omega) (beyond_mono ua (by omega)) fun k k1 lo hi => ?_)))
  dsimp only
  have low : ∀ i, i < k → K a i ≤ K b (nb - 1) := fun i hi => by
    have h1 := beyondF.mp (lo i hi)
    rw [Nat.zero_add] at h1
    exact h1
  have blk := l.blkA ua sa (na - k) (by omega) fun i i1 i2 j hj => by
    have h1 := hi i (by omega) i2
    rw [Nat.zero_add] at h1
    have h2 : K b (nb - 1) < K a i := Int.not_le.mp fun z => b_false h1 (beyondF.mpr z)
    have h3 := ub j (nb - 1) (by omega) (by omega)
    omega
  rw [show na - (na - k) = k by omega, ← rev_app] at blk
  by_cases k0 : na - k > 0
  · rw [if_pos k0]
    by_cases e : k = 0
    · rw [if_pos (by simpa using e)]
      exact wpS_pure (hr _ _ st2 al2 (blk.endD ua ub (by omega) sb (.inl e)))
    · rw [if_neg (by simpa using e)]
      exact s_galH2 hk ita itb ua ub first ⟨blk, by omega, hb, by omega, sb⟩ low (fun r x j => hr r x st2 al2 j) (fun i j o x y z m' le' => hd i j o x y z st2 al2 m' (by omega)) fun i j o x y z m' le' => hy i j o x y z st2 al2 m' (by omega)
  · rw [if_neg k0]
    exact s_galH2 hk ita itb ua ub first m0 (fun i hi => low i (by omega)) (fun r x j => hr r x st2 al2 j) (fun i j o x y z m' le' => hd i j o x y z st2 al2 m' (by omega)) fun i j o x y z m' le' => hy i j o x y z st2 al2 m' (by omega)
set_option maxHeartbeats 1000000 in
theorem s_lapH {st1 : SortSt} {mg na nb : Nat} {out : AK} {o : Option AK} {Q : ForInStep H0 → SortSt → Prop} (hk0 : kindOf st = oneType') (al : Alike st st1) (ita : Its a) (itb : Its b) (ua : Up a) (ub : Up b) (first : ∀ i, i < a.size → K b 0 ≤ K a i) (m : AmidH a b out na nb)
    (hr : ∀ r x st2, Alike st st2 → Joined a b r → Q (.done (some r, x)) st2)
    (hy : ∀ na' nb' out' mg' st2, Alike st st2 → AmidH a b out' na' nb' → na' + nb' < na + nb → Q (.yield (none, na', nb', out', mg')) st2) : wpS (model prog w) A E s (lapH a b (o, na, nb, out, mg)) Q st1 := by
  have hk1 : kindOf st1 = oneType' := al.kd.trans hk0
  have sz : 1 ≤ a.size + b.size := by have := m.sb; have := m.hb; omega
  unfold lapH
  refine wpS_bind (wpS_mono (wpS_forRange (Q := fun c st' => st' = st1 ∧ ((∃ r x, c = (some r, x) ∧ Joined a b r) ∨ ∃ na' nb' out' ac' bc', c = (none, na', nb', out', ac', bc') ∧ AmidH a b out' na' nb' ∧ na' + nb' < na + nb))
    (fun x c st' => st' = st1 ∧ ∃ na' nb' out' ac' bc', c = (none, na', nb', out', ac', bc') ∧ AmidH a b out' na' nb' ∧ na' + nb' + min x 1 ≤ na + nb) ?_ ?_ ⟨rfl, na, nb, out, 0, 0, rfl, m, by omega⟩) ?_)
  · rintro x c st2 _ hx ⟨rfl, i', j', o', ac', bc', rfl, m', le⟩
    exact s_pickH hk1 ita itb ua ub first m' (fun r x j => ⟨rfl, .inl ⟨r, x, rfl, j⟩⟩) (fun i2 j2 o2 a2 b2 m2 l2 => ⟨rfl, .inr ⟨i2, j2, o2, a2, b2, rfl, m2, by omega⟩⟩) fun i2 j2 o2 a2 b2 m2 l2 => ⟨rfl, i2, j2, o2, a2, b2, rfl, m2, by omega⟩
  · rintro c st2 ⟨rfl, i', j', o', ac', bc', rfl, m', le⟩
    exact ⟨rfl, .inr ⟨i', j', o', ac', bc', rfl, m', by omega⟩⟩
  · rintro c st2 ⟨rfl, ⟨r, x, rfl, j⟩ | ⟨i', j', o', ac', bc', rfl, m', le⟩⟩
    · exact wpS_pure (hr _ _ _ al j)
    · dsimp only
      refine wpS_bind (wpS_lift (wpAny_rule ⟨rfl, ?_⟩))
      refine wpS_bind (wpS_mono (wpS_forRange (Q := fun c st' => Alike st st' ∧ ((∃ r x, c = (some r, x) ∧ Joined a b r) ∨ ∃ na' nb' out' mg' ac' bc', c = (none, na', nb', out', mg', ac', bc') ∧ AmidH a b out' na' nb' ∧ na' + nb' < na + nb))
        (fun x c st' => Alike st st' ∧ ∃ na' nb' out' mg' ac' bc', c = (none, na', nb', out', mg', ac', bc') ∧ AmidH a b out' na' nb' ∧ na' + nb' < na + nb) ?_ ?_ ⟨al, i', j', o', mg + 1, ac', bc', rfl, m', le⟩) ?_)
      · rintro x c st3 _ hx ⟨al3, i3, j3, o3, g3, a3, b3, rfl, m3, le3⟩
        unfold galH
        dsimp only
        by_cases g1 : g3 > 1
        · rw [if_pos g1]
          exact s_galH1 hk0 al3 ita itb ua ub first m3 (fun r x st4 al4 j => ⟨al4, .inl ⟨r, x, rfl, j⟩⟩) (fun i4 j4 o4 g4 a4 b4 st4 al4 m4 l4 => ⟨al4, .inr ⟨i4, j4, o4, g4, a4, b4, rfl, m4, by omega⟩⟩) fun i4 j4 o4 g4 a4 b4 st4 al4 m4 l4 => ⟨al4, i4, j4, o4, g4, a4, b4, rfl, m4, by omega⟩
        · rw [if_neg g1]
          exact s_galH1 hk0 al3 ita itb ua ub first m3 (fun r x st4 al4 j => ⟨al4, .inl ⟨r, x, rfl, j⟩⟩) (fun i4 j4 o4 g4 a4 b4 st4 al4 m4 l4 => ⟨al4, .inr ⟨i4, j4, o4, g4, a4, b4, rfl, m4, by omega⟩⟩) fun i4 j4 o4 g4 a4 b4 st4 al4 m4 l4 => ⟨al4, i4, j4, o4, g4, a4, b4, rfl, m4, by omega⟩
      · rintro c st3 ⟨al3, i3, j3, o3, g3, a3, b3, rfl, m3, le3⟩
        exact ⟨al3, .inr ⟨i3, j3, o3, g3, a3, b3, rfl, m3, le3⟩⟩
      · rintro c st3 ⟨al3, ⟨r, x, rfl, j⟩ | ⟨i3, j3, o3, g3, a3, b3, rfl, m3, le3⟩⟩
        · exact wpS_pure (hr _ _ _ al3 j)
        · dsimp only
          exact wpS_bind (s_setMG al3 fun st4 al4 => wpS_pure (hy _ _ _ _ _ al4 m3 le3))
theorem s_mergeHi {Q : AK → SortSt → Prop} (hk : kindOf st = oneType') (ita : Its a) (itb : Its b) (ua : Up a) (ub : Up b) (na : 1 ≤ a.size) (nb : 1 ≤ b.size) (first : ∀ i, i < a.size → K b 0 ≤ K a i) (last : ∀ j, j < b.size → K b j ≤ K a (a.size - 1))
    (h : ∀ r st', Alike st st' → Joined a b r → Q r st') : wpS (model prog w) A E s (mergeHiM a b) Q st := by
  rw [hi_is]
  refine wpS_bind (wpS_lift (wpAny_rule ⟨rfl, ?_⟩))
  obtain ⟨t, p, ea⟩ := ita (a.size - 1) (by omega)
  refine wpS_bind (s_elem ea ?_)
  have l0 : LaidH a b ([] : List Keyed) (a.size - 1 + 1) b.size := ⟨by rw [show a.size - 1 + 1 = a.size by omega]; simp, List.Pairwise.nil, fun p hp => absurd hp (by simp), fun p hp => absurd hp (by simp)⟩
  have l1 : LaidH a b (#[(.int (K a (a.size - 1)) t, p)] : AK).toList.reverse (a.size - 1) b.size := l0.stepA ua ea fun j hj => last j hj
  by_cases e1 : a.size - 1 = 0
  · rw [if_pos (by simpa using e1)]
    exact wpS_pure (h _ _ (Alike.refl _) (l1.endD ua ub (by omega) (Nat.le_refl _) (.inl e1)))
  · rw [if_neg (by simpa using e1)]
    by_cases e2 : b.size = 1
    · rw [if_pos (by simpa using e2)]
      refine wpS_pure (h _ _ (Alike.refl _) (l1.endF ua ub (by omega) (Nat.le_refl _) fun i j hi hj => ?_))
      rw [show j = 0 by omega]
      exact first i (by omega)
    · rw [if_neg (by simpa using e2)]
      refine wpS_bind (wpS_get ?_)
      refine wpS_bind (wpS_mono (wpS_forRange (Q := fun c st' => Alike st st' ∧ ∃ r x, c = (some r, x) ∧ Joined a b r)
        (fun x c st' => Alike st st' ∧ ∃ na' nb' out' mg', c = (none, na', nb', out', mg') ∧ AmidH a b out' na' nb' ∧ na' + nb' + x < a.size + b.size) ?_ ?_ ⟨Alike.refl _, a.size - 1, b.size, _, _, rfl, ⟨l1, by omega, by omega, by omega, Nat.le_refl _⟩, by omega⟩) ?_)
      · rintro x c st2 _ hx ⟨al2, i2, j2, o2, g2, rfl, m2, le2⟩
        exact s_lapH hk al2 ita itb ua ub first m2 (fun r x st3 al3 j => ⟨al3, r, x, rfl, j⟩) fun i3 j3 o3 g3 st3 al3 m3 l3 => ⟨al3, i3, j3, o3, g3, rfl, m3, by omega⟩
      · rintro c st2 ⟨al2, i2, j2, o2, g2, rfl, m2, le2⟩
        omega
      · rintro c st2 ⟨al2, r, x, rfl, j⟩
        exact wpS_pure (h _ _ al2 j)
end
end L2
namespace L2
open PySem PyProof.Rows
/-- laid back from place p on -/
def putBack (xs : AK) (p : Nat) (r : List Keyed) : AK := r.zipIdx.foldl (fun a (q, j) => a.setIfInBounds (p + j) q) xs
def backIn (p : Nat) (r : AK) : StateT SortSt Sem Bool :=
  (modify fun st => SortSt.mk' (kindOf st) (putBack (arrOf st) p r.toList) (pendingOf st) (gallopOf st) (failedOf st) : StateT SortSt Sem Unit) >>= fun _ => (get : StateT SortSt Sem SortSt) >>= fun st => pure (failedOf st).isNone
theorem at_is (i : Nat) : mergeAt' i = ((get : StateT SortSt Sem SortSt) >>= fun st => match ((pendingOf st)[i]?, (pendingOf st)[i + 1]?) with
    | (some (sa, na, pw), some (sb, nb, _)) => (set (SortSt.mk' (kindOf st) (arrOf st) (((pendingOf st).setIfInBounds i (sa, na + nb, pw)).eraseIdxIfInBounds (i + 1)) (gallopOf st) (failedOf st)) : StateT SortSt Sem Unit) >>= fun _ =>
        elem' (arrOf st) sb >>= fun y => gallopM false y (arrOf st) sa na 0 >>= fun k? => match k? with
          | some k => if (na - k == 0) = true then pure true else elem' (arrOf st) (sa + k + (na - k) - 1) >>= fun x => gallopM true x (arrOf st) sb nb (nb - 1) >>= fun m? => match m? with
              | some m => if (m == 0) = true then pure true else if na - k ≤ m then (mergeLoM ((arrOf st).extract (sa + k) sb) ((arrOf st).extract sb (sb + m)) >>= backIn (sa + k))
                  else (mergeHiM ((arrOf st).extract (sa + k) sb) ((arrOf st).extract sb (sb + m)) >>= backIn (sa + k))
              | _ => pure false
          | _ => pure false
    | _ => (liftM (unsupported "internal:list.sort.pending") : StateT SortSt Sem Bool)) := by
  refine bind_congr fun st => ?_
  cases h1 : (pendingOf st)[i]? with
  | none => rfl
  | some u =>
    cases h2 : (pendingOf st)[i + 1]? with
    | none => rfl
    | some v =>
      obtain ⟨sa, na, pw⟩ := u
      obtain ⟨sb, nb, x⟩ := v
      refine bind_congr fun _ => bind_congr fun y => bind_congr fun k? => ?_
      cases k? with
      | none => rfl
      | some k =>
        refine ite_congr rfl (fun _ => rfl) fun _ => bind_congr fun x => bind_congr fun m? => ?_
        cases m? <;> rfl
theorem putBack_get (r : List Keyed) : ∀ (xs : AK) (p : Nat), p + r.length ≤ xs.size → ∀ k, (putBack xs p r)[k]? = if p ≤ k ∧ k < p + r.length then r[k - p]? else xs[k]? := by
  have gen : ∀ (r : List Keyed) (xs : AK) (p o : Nat), p + o + r.length ≤ xs.size → ∀ k, ((r.zipIdx o).foldl (fun a (q, j) => a.setIfInBounds (p + j) q) xs)[k]? = if p + o ≤ k ∧ k < p + o + r.length then r[k - (p + o)]? else xs[k]? := by
    intro r
    induction r with
    | nil =>
      intro xs p o _ k
      rw [if_neg (by simp)]
      rfl
    | cons q r ih =>
      intro xs p o h k
      rw [List.zipIdx_cons, List.foldl_cons]
      dsimp only
      rw [List.length_cons] at h
      rw [ih _ p (o + 1) (by rw [Array.size_setIfInBounds]; omega) k, List.length_cons]
      by_cases c1 : p + (o + 1) ≤ k ∧ k < p + (o + 1) + r.length
      · rw [if_pos c1, if_pos (by omega), show k - (p + o) = (k - (p + (o + 1))) + 1 by omega, List.getElem?_cons_succ]
      · rw [if_neg c1, Array.getElem?_setIfInBounds]
        by_cases c2 : k = p + o
        · rw [if_pos c2.symm, if_pos (by omega), if_pos (by omega), c2, Nat.sub_self]
          rfl
        · rw [if_neg (fun e => c2 e.symm), if_neg (by omega)]
  intro xs p h k
  have := gen r xs p 0 (by omega) k
  simp only [Nat.add_zero] at this
  exact this
end L2
namespace L2
open PySem PyProof.Rows
theorem ext_get {xs : AK} {p q i : Nat} (hq : q ≤ xs.size) (hi : i < q - p) : (xs.extract p q)[i]? = xs[p + i]? := by
  rw [Array.getElem?_extract, if_pos (by omega)]
theorem ext_K {xs : AK} {p q i : Nat} (hq : q ≤ xs.size) (hi : i < q - p) : K (xs.extract p q) i = K xs (p + i) := K_congr (ext_get hq hi)
theorem ext_size {xs : AK} {p q : Nat} (hq : q ≤ xs.size) : (xs.extract p q).size = q - p := by rw [Array.size_extract]; omega
theorem ext_its {xs : AK} {p q : Nat} (hq : q ≤ xs.size) (it : Its xs) : Its (xs.extract p q) := fun i hi => by
  rw [ext_size hq] at hi
  rw [ext_get hq hi, ext_K hq hi]
  exact it _ (by omega)
theorem cut4 {xs : AK} {k n m : Nat} (h1 : k ≤ n) (h2 : n ≤ m) (h3 : m ≤ xs.size) : xs.toList = xs.toList.take k ++ ((xs.extract k n).toList ++ (xs.extract n m).toList) ++ xs.toList.drop m := by
  simp only [Array.toList_extract, List.extract_eq_take_drop]
  have e1 : (xs.toList.drop k).take (n - k) ++ (xs.toList.drop n).take (m - n) = (xs.toList.drop k).take (m - k) := by
    rw [show m - k = (n - k) + (m - n) by omega, List.take_add, List.drop_drop, show k + (n - k) = n by omega]
  rw [e1]
  have e2 : xs.toList.take k ++ (xs.toList.drop k).take (m - k) = xs.toList.take m := by
    rw [← List.take_add, show k + (m - k) = m by omega]
  rw [e2, List.take_append_drop]
theorem putBack_list {xs : AK} {k m : Nat} {r : List Keyed} (hr : k + r.length = m) (hm : m ≤ xs.size) : (putBack xs k r).toList = xs.toList.take k ++ r ++ xs.toList.drop m := by
  apply List.ext_getElem?
  intro t
  rw [Array.getElem?_toList, putBack_get r xs k (by omega)]
  have lk : (xs.toList.take k).length = k := by rw [List.length_take, Array.length_toList]; omega
  by_cases c : k ≤ t ∧ t < k + r.length
  · rw [if_pos c, List.getElem?_append_left (by rw [List.length_append, lk]; omega), List.getElem?_append_right (by rw [lk]; omega), lk]
  · rw [if_neg c]
    by_cases c2 : t < k
    · rw [List.getElem?_append_left (by rw [List.length_append, lk]; omega), List.getElem?_append_left (by rw [lk]; omega), List.getElem?_take, if_pos c2, Array.getElem?_toList]
    · rw [List.getElem?_append_right (by rw [List.length_append, lk]; omega), List.length_append, lk, List.getElem?_drop, Array.getElem?_toList]
      congr 1
      omega
section
variable {prog : Program} {w : World} {A : Around} {E : Value → Shared → Prop} {s : Shared} {z : Array Keyed} {st : SortSt}
theorem whole_ord {xs : AK} {n N : Nat} (o1 : Ord xs 0 n) (o2 : Ord xs n (N - n)) (j : ∀ i j, i < n → n ≤ j → j < N → K xs i ≤ K xs j) : SortedTo xs N := fun i k hik hk => by
  by_cases c : k < n
  · have := o1 i k hik c
    simpa using this
  · by_cases d : i < n
    · exact j i k d (by omega) hk
    · have := o2 (i - n) (k - n) (by omega) (by omega)
      rwa [show n + (i - n) = i by omega, show n + (k - n) = k by omega] at this
/-- what the laying together gives, laid back -/
theorem joined_back {xs r : AK} {k n m N : Nat} (hN : N = xs.size) (h1 : k ≤ n) (h2 : n ≤ m) (h3 : m ≤ N) (o1 : Ord xs 0 n) (o2 : Ord xs n (N - n)) (lo : ∀ i, i < k → ∀ j, n ≤ j → j < N → K xs i ≤ K xs j) (hi : ∀ i, i < n → ∀ j, m ≤ j → j < N → K xs i ≤ K xs j)
    (J : Joined (xs.extract k n) (xs.extract n m) r) : (putBack xs k r.toList).Perm xs ∧ SortedTo (putBack xs k r.toList) N := by
  have lr : r.toList.length = m - k := by
    rw [J.1.length_eq, List.length_append, Array.length_toList, Array.length_toList, ext_size (by omega), ext_size (by omega)]
    omega
  have ord : ∀ i j, i ≤ j → j < N → (i < n → j < n ∨ False) ∨ True := fun _ _ _ _ => .inr trivial
  constructor
  · rw [Array.perm_iff_toList_perm, putBack_list (m := m) (by omega) (by omega)]
    refine List.Perm.trans ?_ (List.Perm.of_eq (cut4 h1 h2 (by omega)).symm)
    exact (J.1.append_left _).append_right _
  · have get := putBack_get r.toList xs k (by omega)
    rw [lr] at get
    -- an item of r stands somewhere between
    have mid : ∀ t, k ≤ t → t < m → ∃ u, k ≤ u ∧ u < m ∧ K (putBack xs k r.toList) t = K xs u := fun t t1 t2 => by
      have e := get t
      rw [if_pos (by omega)] at e
      obtain ⟨p, hp⟩ : ∃ p, r.toList[t - k]? = some p := ⟨_, List.getElem?_eq_getElem (by omega)⟩
      rw [hp] at e
      rw [ky_at e]
      rcases List.mem_append.mp (J.1.mem_iff.mp (List.mem_of_getElem? hp)) with y | y
      · obtain ⟨i, hi, ei⟩ := List.getElem_of_mem y
        rw [Array.length_toList, ext_size (by omega)] at hi
        refine ⟨k + i, by omega, by omega, ?_⟩
        rw [← ext_K (p := k) (q := n) (by omega) hi]
        exact (ky_at (by rw [← Array.getElem?_toList, List.getElem?_eq_getElem (by rw [Array.length_toList, ext_size (by omega)]; exact hi), ei])).symm
      · obtain ⟨i, hi, ei⟩ := List.getElem_of_mem y
        rw [Array.length_toList, ext_size (by omega)] at hi
        refine ⟨n + i, by omega, by omega, ?_⟩
        rw [← ext_K (p := n) (q := m) (by omega) hi]
        exact (ky_at (by rw [← Array.getElem?_toList, List.getElem?_eq_getElem (by rw [Array.length_toList, ext_size (by omega)]; exact hi), ei])).symm
    have out : ∀ t, ¬ (k ≤ t ∧ t < m) → K (putBack xs k r.toList) t = K xs t := fun t ht => by
      have e := get t
      rw [if_neg (by omega)] at e
      exact K_congr e
    have low : ∀ i j, i ≤ j → j < n → K xs i ≤ K xs j := fun i j a c => by
      have := o1 i j a c
      simpa using this
    have hig : ∀ i j, n ≤ i → i ≤ j → j < N → K xs i ≤ K xs j := fun i j a c d => by
      have := o2 (i - n) (j - n) (by omega) (by omega)
      rwa [show n + (i - n) = i by omega, show n + (j - n) = j by omega] at this
    intro i j hij hj
    by_cases ci : k ≤ i ∧ i < m
    · obtain ⟨u, u1, u2, eu⟩ := mid i ci.1 ci.2
      by_cases cj : k ≤ j ∧ j < m
      · have e1 := get i
        have e2 := get j
        rw [if_pos (by omega)] at e1 e2
        obtain ⟨p, hp⟩ : ∃ p, r.toList[i - k]? = some p := ⟨_, List.getElem?_eq_getElem (by omega)⟩
        obtain ⟨q, hq⟩ : ∃ q, r.toList[j - k]? = some q := ⟨_, List.getElem?_eq_getElem (by omega)⟩
        rw [hp] at e1
        rw [hq] at e2
        rw [ky_at e1, ky_at e2]
        by_cases eij : i = j
        · subst eij
          rw [hp] at hq
          cases hq
          exact Int.le_refl _
        · have := List.pairwise_iff_getElem.mp J.2 (i - k) (j - k) (by omega) (by omega) (by omega)
          rw [(List.getElem?_eq_some_iff.mp hp).2, (List.getElem?_eq_some_iff.mp hq).2] at this
          exact this
      · rw [eu, out j cj]
        by_cases cu : u < n
        · exact hi u cu j (by omega) hj
        · exact hig u j (by omega) (by omega) hj
    · rw [out i ci]
      by_cases cj : k ≤ j ∧ j < m
      · obtain ⟨u, u1, u2, eu⟩ := mid j cj.1 cj.2
        rw [eu]
        by_cases cu : u < n
        · exact low i u (by omega) cu
        · exact lo i (by omega) u (by omega) (by omega)
      · rw [out j cj]
        by_cases c1 : j < n
        · exact low i j hij c1
        · by_cases c2 : i < n
          · exact lo i (by omega) j (by omega) hj
          · exact hig i j (by omega) hij hj
end
end L2
namespace L2
open PySem PyProof.Rows
section
variable {prog : Program} {w : World} {A : Around} {E : Value → Shared → Prop} {s : Shared} {z : Array Keyed} {st : SortSt}
theorem s_set {x : SortSt} {Q : Unit → SortSt → Prop} (h : Q () x) : wpS (model prog w) A E s (set x : StateT SortSt Sem Unit) Q st := by
  unfold wpS
  rw [StateT.run_set]
  exact wpAny_pure ⟨rfl, h⟩
theorem s_back {xs r : AK} {p : Nat} {st1 : SortSt} {Q : Bool → SortSt → Prop} (hf : failedOf st1 = none) (ha : arrOf st1 = xs) (h : ∀ st2, kindOf st2 = kindOf st1 → pendingOf st2 = pendingOf st1 → failedOf st2 = none → arrOf st2 = putBack xs p r.toList → Q true st2) :
    wpS (model prog w) A E s (backIn p r) Q st1 := by
  unfold backIn
  refine wpS_bind (wpS_modify (wpS_bind (wpS_get ?_)))
  have hf2 : failedOf (SortSt.mk' (kindOf st1) (putBack (arrOf st1) p r.toList) (pendingOf st1) (gallopOf st1) (failedOf st1)) = none := hf
  rw [hf2]
  exact wpS_pure (h _ rfl rfl rfl (by show putBack (arrOf st1) p r.toList = _; rw [ha]))
set_option maxHeartbeats 1000000 in
theorem s_mergeAt {n1 n2 pw : Nat} {Q : Bool → SortSt → Prop} (hz : IntKeys z) (b : Sb z #[(0, n1, pw), (n1, n2, 0)] st) (hn : n1 + n2 = z.size) (h1 : 1 ≤ n1) (h2 : 1 ≤ n2) (o1 : Ord (arrOf st) 0 n1) (o2 : Ord (arrOf st) n1 n2)
    (h : ∀ st', Sb z #[(0, n1 + n2, pw)] st' → SortedTo (arrOf st') z.size → Q true st') : wpS (model prog w) A E s (mergeAt' 0) Q st := by
  have it : Its (arrOf st) := fun i hi => key_item b.pm hz hi
  have sz : (arrOf st).size = n1 + n2 := by rw [b.sz, hn]
  have o2' : Ord (arrOf st) n1 (z.size - n1) := by rw [show z.size - n1 = n2 by omega]; exact o2
  have low : ∀ i j, i ≤ j → j < n1 → K (arrOf st) i ≤ K (arrOf st) j := fun i j a c => by
    have := o1 i j a c
    simpa using this
  have hig : ∀ i j, n1 ≤ i → i ≤ j → j < n1 + n2 → K (arrOf st) i ≤ K (arrOf st) j := fun i j a c d => by
    have := o2 (i - n1) (j - n1) (by omega) (by omega)
    rwa [show n1 + (i - n1) = i by omega, show n1 + (j - n1) = j by omega] at this
  rw [at_is]
  refine wpS_bind (wpS_get ?_)
  have e0 : (pendingOf st)[0]? = some (0, n1, pw) := by rw [b.pd]; rfl
  have e1 : (pendingOf st)[0 + 1]? = some (n1, n2, 0) := by rw [b.pd]; rfl
  rw [e0, e1]
  dsimp only
  refine wpS_bind (s_set ?_)
  have ep : ((pendingOf st).setIfInBounds 0 (0, n1 + n2, pw)).eraseIdxIfInBounds (0 + 1) = #[(0, n1 + n2, pw)] := by
    rw [b.pd]
    apply Array.toList_inj.mp
    first | (simp [Array.eraseIdxIfInBounds]; done) | (simp [Array.eraseIdxIfInBounds, Array.eraseIdx, Array.swap]; done) | (unfold Array.eraseIdxIfInBounds; simp)
  rw [ep]
  have b1 : Sb z #[(0, n1 + n2, pw)] (SortSt.mk' (kindOf st) (arrOf st) #[(0, n1 + n2, pw)] (gallopOf st) (failedOf st)) := ⟨b.pm, b.kd, b.fl, rfl⟩
  generalize hst1 : SortSt.mk' (kindOf st) (arrOf st) #[(0, n1 + n2, pw)] (gallopOf st) (failedOf st) = st1 at b1
  have ea1 : arrOf st1 = arrOf st := by rw [← hst1]
  have gmono : ∀ (left : Bool) (x : Int) (base n : Nat), base + n ≤ n1 + n2 → Ord (arrOf st) base n → ∀ i j, i ≤ j → j < n → beyond left x (K (arrOf st) (base + j)) = true → beyond left x (K (arrOf st) (base + i)) = true := fun left x base n hb o i j hij hj hh => by
    have := o i j hij hj
    cases left with
    | true => rw [beyondT] at hh ⊢; omega
    | false => rw [beyondF] at hh ⊢; omega
  obtain ⟨u, q, eb⟩ := it n1 (by omega)
  refine wpS_bind (s_elem eb (wpS_bind (s_gallop (tells_of b1.kd it (by omega)) (by omega) (gmono _ _ _ _ (by omega) o1) fun k k1 klo khi => ?_)))
  dsimp only
  have kl : ∀ i, i < k → K (arrOf st) i ≤ K (arrOf st) n1 := fun i hi => by
    have := beyondF.mp (klo i hi)
    rwa [Nat.zero_add] at this
  have kh : ∀ i, k ≤ i → i < n1 → K (arrOf st) n1 < K (arrOf st) i := fun i a c => by
    have := khi i a c
    rw [Nat.zero_add] at this
    exact Int.not_le.mp fun zz => b_false this (beyondF.mpr zz)
  by_cases ek : n1 - k = 0
  · rw [if_pos (by simpa using ek)]
    refine wpS_pure (h st1 b1 ?_)
    rw [ea1]
    exact whole_ord o1 o2' fun i j a c d => Int.le_trans (kl i (by omega)) (hig n1 j (Nat.le_refl _) c (by omega))
  · rw [if_neg (by simpa using ek), show 0 + k + (n1 - k) - 1 = n1 - 1 by omega]
    obtain ⟨t, p, el⟩ := it (n1 - 1) (by omega)
    refine wpS_bind (s_elem el (wpS_bind (s_gallop (tells_of b1.kd it (by omega)) (by omega) (gmono _ _ _ _ (by omega) o2) fun m m1 mlo mhi => ?_)))
    dsimp only
    have ml : ∀ j, j < m → K (arrOf st) (n1 + j) < K (arrOf st) (n1 - 1) := fun j hj => beyondT.mp (mlo j hj)
    have mh : ∀ j, m ≤ j → j < n2 → K (arrOf st) (n1 - 1) ≤ K (arrOf st) (n1 + j) := fun j a c => Int.not_lt.mp fun zz => b_false (mhi j a c) (beyondT.mpr zz)
    by_cases em : m = 0
    · rw [if_pos (by simpa using em)]
      refine wpS_pure (h st1 b1 ?_)
      rw [ea1]
      refine whole_ord o1 o2' fun i j a c d => Int.le_trans (low i (n1 - 1) (by omega) (by omega)) ?_
      have := mh (j - n1) (by omega) (by omega)
      rwa [show n1 + (j - n1) = j by omega] at this
    · rw [if_neg (by simpa using em)]
      rw [Nat.zero_add]
      have sx : ((arrOf st).extract k n1).size = n1 - k := ext_size (by omega)
      have sy : ((arrOf st).extract n1 (n1 + m)).size = m := by rw [ext_size (by omega)]; omega
      have ux : Up ((arrOf st).extract k n1) := fun i j a c => by
        rw [sx] at c
        rw [ext_K (by omega) (by omega), ext_K (by omega) (by omega)]
        exact low _ _ (by omega) (by omega)
      have uy : Up ((arrOf st).extract n1 (n1 + m)) := fun i j a c => by
        rw [sy] at c
        rw [ext_K (by omega) (by omega), ext_K (by omega) (by omega)]
        exact hig _ _ (by omega) (by omega) (by omega)
      have fs : ∀ i, i < ((arrOf st).extract k n1).size → K ((arrOf st).extract n1 (n1 + m)) 0 ≤ K ((arrOf st).extract k n1) i := fun i hi => by
        rw [sx] at hi
        rw [ext_K (by omega) (by omega), ext_K (by omega) (by omega), Nat.add_zero]
        exact Int.le_of_lt (kh _ (by omega) (by omega))
      have ls : ∀ j, j < ((arrOf st).extract n1 (n1 + m)).size → K ((arrOf st).extract n1 (n1 + m)) j ≤ K ((arrOf st).extract k n1) (((arrOf st).extract k n1).size - 1) := fun j hj => by
        rw [sy] at hj
        rw [sx, ext_K (by omega) (by omega), ext_K (by omega) (by omega), show k + (n1 - k - 1) = n1 - 1 by omega]
        exact Int.le_of_lt (ml j hj)
      have fin : ∀ r st2, Alike st1 st2 → Joined ((arrOf st).extract k n1) ((arrOf st).extract n1 (n1 + m)) r → wpS (model prog w) A E s (backIn k r) Q st2 := fun r st2 al J => by
        have jb := joined_back (N := z.size) (by omega) (by omega) (by omega) (by omega) o1 o2' (fun i hi j a c => Int.le_trans (kl i hi) (hig n1 j (Nat.le_refl _) a (by omega))) (fun i hi j a c => by
          have x1 := mh (j - n1) (by omega) (by omega)
          rw [show n1 + (j - n1) = j by omega] at x1
          exact Int.le_trans (low i (n1 - 1) (by omega) (by omega)) x1) J
        refine s_back (xs := arrOf st) (al.fl.trans b1.fl) (al.ar.trans ea1) fun st3 c1 c2 c3 c4 => h st3 ⟨by rw [c4]; exact jb.1.trans b.pm, c1.trans (al.kd.trans b1.kd), c3, c2.trans (al.pd.trans b1.pd)⟩ (by rw [c4]; exact jb.2)
      by_cases le : n1 - k ≤ m
      · rw [if_pos le]
        exact wpS_bind (s_mergeLo b1.kd (ext_its (by omega) it) (ext_its (by omega) it) ux uy (by omega) (by omega) fs ls fin)
      · rw [if_neg le]
        exact wpS_bind (s_mergeHi b1.kd (ext_its (by omega) it) (ext_its (by omega) it) ux uy (by omega) (by omega) fs ls fin)
end
end L2
namespace L2
open PySem PyProof.Rows
section
variable {prog : Program} {w : World} {A : Around} {E : Value → Shared → Prop} {s : Shared} {z : Array Keyed} {st : SortSt}
/-- behind the runs: one, or two -/
def Runs (z : Array Keyed) (st : SortSt) : Prop :=
  (∃ pw, Sb z #[(0, z.size, pw)] st ∧ Ord (arrOf st) 0 z.size) ∨ ∃ n1 n2 pw, Sb z #[(0, n1, pw), (n1, n2, 0)] st ∧ n1 + n2 = z.size ∧ 1 ≤ n1 ∧ 1 ≤ n2 ∧ Ord (arrOf st) 0 n1 ∧ Ord (arrOf st) n1 n2
theorem ord_low {xs ys : AK} {n : Nat} (l : Low xs ys n) (o : Ord xs 0 n) : Ord ys 0 n := fun i j a c => by
  have e1 : K ys (0 + i) = K xs (0 + i) := K_congr (l _ (by omega))
  have e2 : K ys (0 + j) = K xs (0 + j) := K_congr (l _ (by omega))
  rw [e1, e2]
  exact o i j a c
theorem Sb.push {pd : Array (Nat × Nat × Nat)} {r : Nat × Nat × Nat} {st : SortSt} (b : Sb z pd st) : Sb z (pd.push r) (SortSt.mk' (kindOf st) (arrOf st) ((pendingOf st).push r) (gallopOf st) (failedOf st)) := ⟨b.pm, b.kd, b.fl, by show (pendingOf st).push r = _; rw [b.pd]⟩
set_option maxHeartbeats 2000000 in
theorem s_sortRuns {Q : Unit → SortSt → Prop} (hz : IntKeys z) (b : Sb z #[] st) (h64 : 64 ≤ z.size) (h128 : z.size < 128)
    (h : ∀ st', (arrOf st').Perm z → failedOf st' = none → SortedTo (arrOf st') z.size → Q () st') : wpS (model prog w) A E s sortRuns' Q st := by
  rw [sortRuns'_eq]
  refine wpS_bind (wpS_get ?_)
  dsimp only
  obtain ⟨mr, hmr, em⟩ : ∃ mr, minRun' z.size z.size 0 = mr ∧ mr = z.size / 2 + z.size % 2 := by
    refine ⟨_, rfl, ?_⟩
    obtain ⟨f, hf⟩ : ∃ f, z.size = f + 1 + 1 := ⟨z.size - 2, by omega⟩
    have e : minRun' (f + 1 + 1) z.size 0 = z.size / 2 + max 0 (z.size % 2) := by rw [minRun'_succ, if_neg (by omega), minRun'_succ, if_pos (by omega)]
    rw [← hf] at e
    rw [e]
    omega
  simp only [b.sz, hmr]
  refine wpS_bind (wpS_mono (wpS_forRange (Q := fun c st' => c = (none, z.size) ∧ Runs z st')
    (fun x c st' => (x = 0 ∧ c = (none, 0) ∧ Sb z #[] st') ∨ (1 ≤ x ∧ ∃ n1, c = (none, n1) ∧ mr ≤ n1 ∧ n1 < z.size ∧ x ≤ 1 ∧ Sb z #[(0, n1, 0)] st' ∧ Ord (arrOf st') 0 n1) ∨ (1 ≤ x ∧ c = (none, z.size) ∧ Runs z st')) ?_ ?_ (.inl ⟨rfl, rfl, b⟩)) ?_)
  · rintro x c st1 _ hx (⟨rfl, rfl, b1⟩ | ⟨hx1, n1, rfl, g1, g2, hx2, b1, o1⟩ | ⟨hx1, rfl, rn⟩)
    · dsimp only
      rw [if_neg (by omega)]
      refine wpS_bind (s_run hz (by omega) (by omega) b1 fun m st2 b2 _ k1 k2 o2 => ?_)
      dsimp only
      have fin : ∀ n st3, Sb z #[] st3 → mr ≤ n → n ≤ z.size → Ord (arrOf st3) 0 n → (0 + 1 = 0 ∧ ((none : Option Unit), 0 + n) = (none, 0) ∧ Sb z #[] (SortSt.mk' (kindOf st3) (arrOf st3) ((pendingOf st3).push (0, n, 0)) (gallopOf st3) (failedOf st3))) ∨ (1 ≤ 0 + 1 ∧ ∃ n1, ((none : Option Unit), 0 + n) = (none, n1) ∧ mr ≤ n1 ∧ n1 < z.size ∧ 0 + 1 ≤ 1 ∧ Sb z #[(0, n1, 0)] (SortSt.mk' (kindOf st3) (arrOf st3) ((pendingOf st3).push (0, n, 0)) (gallopOf st3) (failedOf st3)) ∧ Ord (arrOf st3) 0 n1) ∨ (1 ≤ 0 + 1 ∧ ((none : Option Unit), 0 + n) = (none, z.size) ∧ Runs z (SortSt.mk' (kindOf st3) (arrOf st3) ((pendingOf st3).push (0, n, 0)) (gallopOf st3) (failedOf st3))) := fun n st3 b3 a1 a2 o3 => by
        rcases Nat.lt_or_eq_of_le a2 with y | y
        · exact .inr (.inl ⟨by omega, n, by rw [Nat.zero_add], a1, y, by omega, b3.push, o3⟩)
        · exact .inr (.inr ⟨by omega, by rw [Nat.zero_add, y], .inl ⟨0, by rw [← y]; exact b3.push, by rw [← y]; exact o3⟩⟩)
      by_cases lt : m < mr
      · rw [if_pos lt]
        refine wpS_bind (wpS_lift (wpAny_rule ⟨rfl, ?_⟩))
        rw [show min (z.size - 0) mr = mr by omega]
        refine wpS_bind (s_binary hz (by omega) (by omega) b2 o2 fun st3 b3 _ o3 => ?_)
        simp only [Bool.not_true, Bool.false_eq_true, if_false]
        refine wpS_bind (wpS_get ?_)
        have hb : (pendingOf st3).back? = none := by rw [b3.pd]; rfl
        rw [hb]
        dsimp only
        exact wpS_bind (wpS_modify (wpS_pure (fin mr st3 b3 (Nat.le_refl _) (by omega) o3)))
      · rw [if_neg lt]
        refine wpS_bind (wpS_get ?_)
        have hb : (pendingOf st2).back? = none := by rw [b2.pd]; rfl
        rw [hb]
        dsimp only
        exact wpS_bind (wpS_modify (wpS_pure (fin m st2 b2 (by omega) (by omega) o2)))
    · dsimp only
      rw [if_neg (by omega)]
      refine wpS_bind (s_run (lo := n1) hz (by omega) (by omega) b1 fun m st2 b2 lw k1 k2 o2 => ?_)
      dsimp only
      have step : ∀ st3, Sb z #[(0, n1, 0)] st3 → ∀ (x : Nat) (c : Option Unit × Unit) (st' : SortSt), c = (none, ()) ∧ st' = st3 → (if (pendingOf st').size > 1 then (pendingOf st')[(pendingOf st').size - 2]? else none) = none := fun st3 b3 x c st' hh => by
        rw [hh.2, b3.pd]
        rfl
      by_cases lt : m < mr
      · rw [if_pos lt]
        refine wpS_bind (wpS_lift (wpAny_rule ⟨rfl, ?_⟩))
        rw [show min (z.size - n1) mr = z.size - n1 by omega]
        refine wpS_bind (s_binary hz (by omega) (by omega) b2 o2 fun st3 b3 lw3 o3 => ?_)
        simp only [Bool.not_true, Bool.false_eq_true, if_false]
        refine wpS_bind (wpS_get ?_)
        have hb : (pendingOf st3).back? = some (0, n1, 0) := by rw [b3.pd]; rfl
        rw [hb]
        dsimp only
        refine wpS_bind (wpS_mono (wpS_forRange (Q := fun c st' => c = (none, ()) ∧ st' = st3) (fun _ c st' => c = (none, ()) ∧ st' = st3) (fun i c st' _ _ hh => ?_) (fun c st' hh => hh) ⟨rfl, rfl⟩) ?_)
        · refine wpS_bind (wpS_get ?_)
          rw [step st3 b3 i c st' hh]
          exact wpS_pure ⟨rfl, hh.2⟩
        · rintro c st' ⟨rfl, rfl⟩
          dsimp only
          refine wpS_bind (wpS_modify (wpS_bind (wpS_modify (wpS_pure (.inr (.inr ⟨by omega, by rw [show n1 + (z.size - n1) = z.size by omega], .inr ⟨n1, z.size - n1, power' z.size (2 * 0 + n1) (2 * 0 + n1 + n1 + (z.size - n1)) z.size, ⟨b3.pm, b3.kd, b3.fl, ?_⟩, by omega, by omega, by omega, ord_low (lw.trans lw3) o1, o3⟩⟩))))))
          show ((pendingOf st').modify ((pendingOf st').size - 1) _).push _ = _
          rw [b3.pd]
          rfl
      · rw [if_neg lt]
        have em2 : m = z.size - n1 := by omega
        subst em2
        refine wpS_bind (wpS_get ?_)
        have hb : (pendingOf st2).back? = some (0, n1, 0) := by rw [b2.pd]; rfl
        rw [hb]
        dsimp only
        refine wpS_bind (wpS_mono (wpS_forRange (Q := fun c st' => c = (none, ()) ∧ st' = st2) (fun _ c st' => c = (none, ()) ∧ st' = st2) (fun i c st' _ _ hh => ?_) (fun c st' hh => hh) ⟨rfl, rfl⟩) ?_)
        · refine wpS_bind (wpS_get ?_)
          rw [step st2 b2 i c st' hh]
          exact wpS_pure ⟨rfl, hh.2⟩
        · rintro c st' ⟨rfl, rfl⟩
          dsimp only
          refine wpS_bind (wpS_modify (wpS_bind (wpS_modify (wpS_pure (.inr (.inr ⟨by omega, by rw [show n1 + (z.size - n1) = z.size by omega], .inr ⟨n1, z.size - n1, power' z.size (2 * 0 + n1) (2 * 0 + n1 + n1 + (z.size - n1)) z.size, ⟨b2.pm, b2.kd, b2.fl, ?_⟩, by omega, by omega, by omega, ord_low lw o1, o2⟩⟩))))))
          show ((pendingOf st').modify ((pendingOf st').size - 1) _).push _ = _
          rw [b2.pd]
          rfl
    · dsimp only
      rw [if_pos (Nat.le_refl _)]
      exact wpS_pure ⟨rfl, rn⟩
  · rintro c st1 (⟨hx, _, _⟩ | ⟨_, n1, _, _, _, hx, _⟩ | ⟨_, hc, rn⟩)
    · omega
    · omega
    · exact ⟨hc, rn⟩
  · rintro c st1 ⟨rfl, rn⟩
    dsimp only
    refine wpS_bind (wpS_mono (wpS_forRange (Q := fun c st' => c = (none, ()) ∧ ∃ pw, Sb z #[(0, z.size, pw)] st' ∧ SortedTo (arrOf st') z.size)
      (fun x c st' => c = (none, ()) ∧ ((x = 0 ∧ Runs z st') ∨ ∃ pw, Sb z #[(0, z.size, pw)] st' ∧ SortedTo (arrOf st') z.size)) ?_ ?_ ⟨rfl, .inl ⟨rfl, rn⟩⟩) ?_)
    · have one : ∀ (c : Option Unit × Unit) (st' : SortSt) pw, c = (none, ()) → Sb z #[(0, z.size, pw)] st' → (pendingOf st').size ≤ 1 := fun c st' pw _ b' => by rw [b'.pd]; exact Nat.le_refl 1
      have ord : ∀ st', Ord (arrOf st') 0 z.size → SortedTo (arrOf st') z.size := fun st' o i j a c => by
        have := o i j a c
        simpa using this
      rintro x c st2 _ hx ⟨rfl, ⟨rfl, ⟨pw, b2, o⟩ | ⟨n1, n2, pw, b2, e, h1, h2, o1, o2⟩⟩ | ⟨pw, b2, o⟩⟩
      · refine wpS_bind (wpS_get ?_)
        rw [if_pos (one (none, ()) st2 pw rfl b2)]
        exact wpS_pure ⟨rfl, pw, b2, ord st2 o⟩
      · refine wpS_bind (wpS_get ?_)
        rw [if_neg (show ¬ (pendingOf st2).size ≤ 1 by rw [b2.pd]; show ¬ (2 ≤ 1); omega)]
        have ei : (pendingOf st2).size - 2 = 0 := by rw [b2.pd]; rfl
        simp only [ei]
        rw [if_neg (show ¬ (0 : Nat) > 0 by omega), if_neg (show ¬ Option.any _ none = true by simp)]
        refine wpS_bind (s_mergeAt hz b2 e h1 h2 o1 o2 fun st3 b3 o3 => ?_)
        simp only [Bool.not_true, Bool.false_eq_true, if_false]
        exact wpS_pure ⟨rfl, .inr ⟨pw, by rw [← e]; exact b3, o3⟩⟩
      · refine wpS_bind (wpS_get ?_)
        rw [if_pos (one (none, ()) st2 pw rfl b2)]
        exact wpS_pure ⟨rfl, pw, b2, o⟩
    · rintro c st2 ⟨rfl, ⟨hx, _⟩ | hh⟩
      · omega
      · exact ⟨rfl, hh⟩
    · rintro c st2 ⟨rfl, pw, b2, o⟩
      exact wpS_pure (h _ b2.pm b2.fl o)
end
end L2
namespace L2
open PySem PyProof.Rows
section
variable {prog : Program} {w : World} {A : Around} {E : Value → Shared → Prop} {s : Shared}
theorem s_runs {z : Array Keyed} {st : SortSt} {Q : Unit → SortSt → Prop} (hz : IntKeys z) (b : Sb z #[] st) (h2 : 2 ≤ z.size) (h128 : z.size < 128)
    (h : ∀ st', (arrOf st').Perm z → failedOf st' = none → SortedTo (arrOf st') z.size → Q () st') : wpS (model prog w) A E s sortRuns' Q st := by
  by_cases h64 : z.size < 64
  · exact wpS_sortRuns hz ⟨b.pm, b.kd, b.fl, b.pd⟩ h2 h64 h
  · exact s_sortRuns hz b (Nat.le_of_not_lt h64) h128 h
/-- where the sorting's own two lists lie: kS the keys, a the list itself -/
structure Sites (h₀ : Heap) (L : Addr) (ne : List (Addr × Obj)) (kS a : Addr) : Prop where
  ka : kS ≠ a
  kL : kS ≠ L
  aL : a ≠ L
  k0 : h₀.get? kS = none
  a0 : h₀.get? a = none
  no : ∀ p ∈ ne, p.1 ≠ kS ∧ p.1 ≠ a
/-- the heap while it is under way -/
structure Mid (h₀ : Heap) (L : Addr) (m : Str → Option Value) (ne : List (Addr × Obj)) (kS a : Addr) (e1 : Nat) (g : Heap) (ks : Array Value) (e : Nat) : Prop where
  fr : Fr h₀ L g m
  old : News h₀ L g ne
  k : g.get? kS = some (seqObj "list" ks e)
  a : g.get? a = some (seqObj "list" #[] e1)
theorem fit128 {n : Nat} (h : n < 128) : n + 1 ≤ sizeLine := Nat.le_trans (Nat.succ_le_of_lt h) (by decide)
variable {h₀ : Heap} {L : Addr} {m : Str → Option Value} {ne : List (Addr × Obj)} {kS a : Addr} {e1 e : Nat} {g : Heap} {ks : Array Value} {vs : List Value} {kz : List Int} {P : PySem.Fin → Shared → Prop}
theorem Mid.all (S : Sites h₀ L ne kS a) (M : Mid h₀ L m ne kS a e1 g ks e) : News h₀ L g (ne ++ [(kS, seqObj "list" ks e), (a, seqObj "list" #[] e1)]) := by
  intro p hp
  rcases List.mem_append.mp hp with z | z
  · exact M.old p z
  · simp only [List.mem_cons, List.mem_nil_iff, or_false] at z
    rcases z with rfl | rfl
    · exact ⟨M.k, S.kL, S.k0⟩
    · exact ⟨M.a, S.aL, S.a0⟩
theorem Mid.of {g' : Heap} (F : Fr h₀ L g' m) (N : News h₀ L g' (ne ++ [(kS, seqObj "list" ks e), (a, seqObj "list" #[] e1)])) : Mid h₀ L m ne kS a e1 g' ks e :=
  ⟨F, fun p hp => N p (List.mem_append_left _ hp), (N (kS, seqObj "list" ks e) (List.mem_append_right _ List.mem_cons_self)).1, (N (a, seqObj "list" #[] e1) (List.mem_append_right _ (List.mem_cons_of_mem _ List.mem_cons_self))).1⟩
/-- the end: both lists are written back -/
theorem m_tail {st : SortSt} (S : Sites h₀ L ne kS a) (M : Mid h₀ L m ne kS a e1 s.heap ks e) (hk : IntsAre ks.toList kz) (hl : kz.length = vs.length) (hv : vs.length < 128) (hp : (arrOf st).Perm (ks.zip vs.toArray)) (hs : SortedTo (arrOf st) (arrOf st).size) (hf : failedOf st = none)
    (h : ∀ g' tk out c, Fr h₀ L g' m → News h₀ L g' ((a, seqObj "list" out c) :: ne) → KskOut false kz vs out.toList → P (.done (.ret .none)) { s with heap := g', toks := tk }) :
    wpAny (model prog w) A (ksk_tail a false e1 (.ref kS) st) P E s := by
  have z1 : ks.size = vs.length := by
    have := hk.length
    rw [Array.length_toList] at this
    rw [← hl, this]
  have z2 : ((arrOf st).map (·.2)).size = vs.length := by rw [Array.size_map, hp.size_eq, Array.size_zip, z1, List.size_toArray, Nat.min_self]
  have b1 := Heap.SameBut.update s.heap kS (Obj.mapSeq fun _ => (#[] : Array Value))
  have a1 := (b1.2 a S.ka.symm).trans M.a
  have b2 := Heap.SameBut.update (s.heap.update kS (Obj.mapSeq fun _ => (#[] : Array Value))) a (Obj.mapSeq fun _ => (arrOf st).map (·.2))
  obtain ⟨c2, fin⟩ : ∃ c2, ((s.heap.update kS (Obj.mapSeq fun _ => (#[] : Array Value))).update a (Obj.mapSeq fun _ => (arrOf st).map (·.2))).get? a = some (seqObj "list" ((arrOf st).map (·.2)) c2) := ⟨_, get?_update_seq a1 fun _ => (arrOf st).map (·.2)⟩
  have out := ksk_out (b := false) hk hp hs
  unfold ksk_tail
  simp only [Bool.false_eq_true, if_false] at out ⊢
  refine wpAny_bind (listUpdate_at M.k rfl (wpAny_bind (wpAny_letGo (wpAny_bind (seqEpoch_at a1 rfl (wpAny_bind (listUpdate_at a1 rfl ?_ (Nat.zero_le _) ?_)))))) ?_ (Nat.zero_le _))
  · rw [hf]
    simp only [bne_self_eq_false, Bool.false_eq_true, if_false]
    refine wpAny_pure (h _ _ ((arrOf st).map (·.2)) c2 (ksk_fr (ksk_fr M.fr b1 S.kL S.k0) b2 S.aL S.a0) (fun p hp' => ?_) out)
    rcases List.mem_cons.mp hp' with z | z
    · rw [z]
      exact ⟨fin, S.aL, S.a0⟩
    · exact ksk_news (ksk_news M.old b1 fun q hq => (S.no q hq).1) b2 (fun q hq => (S.no q hq).2) p z
  · rw [z2]
    exact Nat.le_succ_of_le (Nat.le_of_succ_le (fit128 hv))
  · rw [z1]
    exact Nat.le_of_succ_le (fit128 hv)
theorem m_end (S : Sites h₀ L ne kS a) (M : Mid h₀ L m ne kS a e1 s.heap ks e) (hk : IntsAre ks.toList kz) (hl : kz.length = vs.length) (hv : vs.length < 128)
    (h : ∀ g' tk out c, Fr h₀ L g' m → News h₀ L g' ((a, seqObj "list" out c) :: ne) → KskOut false kz vs out.toList → P (.done (.ret .none)) { s with heap := g', toks := tk }) :
    wpAny (model prog w) A (ksk_end a false vs.toArray e1 (.ref kS) ks) P E s := by
  have z1 : ks.size = vs.length := by
    have := hk.length
    rw [Array.length_toList] at this
    rw [← hl, this]
  have z3 : (ks.zip vs.toArray).size = vs.length := by rw [Array.size_zip, z1, List.size_toArray, Nat.min_self]
  unfold ksk_end
  simp only [Bool.false_eq_true, if_false, List.size_toArray]
  by_cases few : vs.length < 2
  · rw [if_pos few, if_pos few]
    refine wpAny_bind (wpAny_pure ?_)
    rw [StateT.run_pure]
    refine wpAny_bind (wpAny_pure ?_)
    refine m_tail (st := SortSt.mk' general' (ks.zip vs.toArray) #[] 7 none) S M hk hl hv (Array.Perm.refl _) (fun i j hij hj => ?_) rfl h
    have hj2 : j < (ks.zip vs.toArray).size := hj
    rw [z3] at hj2
    rw [show i = j by omega]
    exact Int.le_refl _
  · rw [if_neg few, if_neg few, ksk_kind hk (by rw [z1]; omega)]
    refine wpAny_bind (wpAny_pure (wpAny_bind (wpAny_mono (s_runs (z := ks.zip vs.toArray) (st := SortSt.mk' oneType' (ks.zip vs.toArray) #[] 7 none)
      (Q := fun _ st' => (arrOf st').Perm (ks.zip vs.toArray) ∧ failedOf st' = none ∧ SortedTo (arrOf st') (ks.zip vs.toArray).size) (ksk_intKeys hk) ⟨Array.Perm.refl _, rfl, rfl, rfl⟩ (by rw [z3]; omega) (by rw [z3]; exact hv) fun st' c1 c2 c3 => ⟨c1, c2, c3⟩) ?_ fun _ _ y => y)))
    rintro ⟨u, st'⟩ s' ⟨rfl, c1, c2, c3⟩
    exact m_tail S M hk hl hv c1 (by rw [c1.size_eq]; exact c3) c2 h
/-- the keys are asked for, one by one -/
theorem m_rest {f : Value} (S : Sites h₀ L ne kS a) (M : Mid h₀ L m ne kS a e1 s.heap #[] 0) (hl : kz.length = vs.length) (hv : vs.length < 128)
    (turn : ∀ (i : Nat) (v : Value) (k : Int), vs[i]? = some v → kz[i]? = some k → ∀ (g : Heap) (tk : Nat) (own : List (Addr × Obj)), Fr h₀ L g m → News h₀ L g (ne ++ own) →
      wpAny (model prog w) A (call f [v]) (KskEnd h₀ L m (ne ++ own) k { s with heap := g, toks := tk }) (fun _ _ => False) { s with heap := g, toks := tk })
    (h : ∀ g' tk out c, Fr h₀ L g' m → News h₀ L g' ((a, seqObj "list" out c) :: ne) → KskOut false kz vs out.toList → P (.done (.ret .none)) { s with heap := g', toks := tk }) :
    wpAny (model prog w) A (ksk_rest a f false vs.toArray e1 (.ref kS)) P E s := by
  unfold ksk_rest
  refine wpAny_bind (wpAny_rule ?_)
  rw [← Array.forIn_toList, List.toList_toArray]
  refine wpAny_bind (ksk_fold (fun i s' => ∃ g tk ks e, s' = { s with heap := g, toks := tk } ∧ Mid h₀ L m ne kS a e1 g ks e ∧ IntsAre ks.toList (kz.take i)) vs 0 s ⟨s.heap, s.toks, #[], 0, rfl, M, .nil⟩ (fun j x s' hx hI => ?_) fun s' hI => ?_)
  · obtain ⟨g, tk, ks, e, rfl, M1, hk⟩ := hI
    rw [Nat.zero_add] at hk ⊢
    have hj : j < kz.length := by rw [hl]; exact (List.getElem?_eq_some_iff.mp hx).1
    have many : ks.size < 128 := by
      have := hk.length
      rw [Array.length_toList, List.length_take] at this
      omega
    refine wpAny_bind (wpAny_attempt (wpAny_mono (turn j x kz[j] hx (List.getElem?_eq_getElem hj) g tk _ M1.fr (M1.all S)) (fun v s'' he => ?_) fun _ _ no => no.elim))
    obtain ⟨g2, tk2, t2, rfl, rfl, F2, N2⟩ := he
    have M2 := Mid.of F2 N2
    have b1 := Heap.SameBut.update g2 kS (Obj.mapSeq (·.push (.int kz[j] t2)))
    refine wpAny_bind (listUpdate_at M2.k rfl (wpAny_pure ⟨rfl, _, _, ks.push (.int kz[j] t2), _, rfl, ⟨ksk_fr F2 b1 S.kL S.k0, ksk_news M2.old b1 fun q hq => (S.no q hq).1, get?_update_seq M2.k (·.push (.int kz[j] t2)), (b1.2 a S.ka.symm).trans M2.a⟩, ?_⟩) (Nat.le_of_succ_le (fit128 many)) ?_)
    · rw [Array.toList_push, List.take_add_one, List.getElem?_eq_getElem hj]
      exact ksk_snoc hk
    · rw [Array.size_push]
      exact Nat.le_succ_of_le (fit128 many)
  · obtain ⟨g, tk, ks, e, rfl, M1, hk⟩ := hI
    rw [Nat.zero_add, List.take_of_length_le (Nat.le_of_eq hl)] at hk
    exact wpAny_bind (listItems_at M1.k rfl (m_end (s := { s with heap := g, toks := tk }) S M1 hk hl hv h))
theorem m_sort {f : Value} {n : Nat} (F : Fr h₀ L s.heap m) (N : News h₀ L s.heap ne) (ho : s.heap.get? a = some (seqObj "list" vs.toArray n)) (aL : a ≠ L) (a0 : h₀.get? a = none) (na : ∀ p ∈ ne, p.1 ≠ a) (hl : kz.length = vs.length) (hv : vs.length < 128)
    (turn : ∀ (i : Nat) (v : Value) (k : Int), vs[i]? = some v → kz[i]? = some k → ∀ (g : Heap) (tk : Nat) (own : List (Addr × Obj)), Fr h₀ L g m → News h₀ L g (ne ++ own) →
      wpAny (model prog w) A (call f [v]) (KskEnd h₀ L m (ne ++ own) k { s with heap := g, toks := tk }) (fun _ _ => False) { s with heap := g, toks := tk })
    (h : ∀ g' tk out c, Fr h₀ L g' m → News h₀ L g' ((a, seqObj "list" out c) :: ne) → KskOut false kz vs out.toList → P (.done (.ret .none)) { s with heap := g', toks := tk }) :
    wpAny (model prog w) A (ksk_tree a f false) P E s := by
  have b1 := Heap.SameBut.update s.heap a (Obj.mapSeq fun _ => (#[] : Array Value))
  have a1 := get?_update_seq ho fun _ => (#[] : Array Value)
  have F1 := ksk_fr F b1 aL a0
  have N1 := ksk_news N b1 na
  have up : ∀ (g : Heap) (x : Obj) b o, g.get? b = some o → (g.push x).get? b = some o := fun g x b o q => Heap.get?_push_of_some _ q
  have lenH : (s.heap.update a (Obj.mapSeq fun _ => (#[] : Array Value))).objs.size = s.heap.objs.size := Heap.size_update ..
  unfold ksk_tree
  refine wpAny_bind (listItems_at ho rfl (wpAny_bind (listUpdate_at ho rfl (wpAny_bind (seqEpoch_at a1 rfl (wpAny_bind (wpAny_newTuple (wpAny_bind (wpAny_newList (wpAny_holding ?_) (Nat.zero_le _))) ?_)))) ?_ (Nat.zero_le _))))
  · have above : ∀ b, b < s.heap.objs.size → b ≠ ((s.heap.update a (Obj.mapSeq fun _ => (#[] : Array Value))).push (seqObj "tuple" vs.toArray 0)).objs.size := fun b hb z => by
      rw [size_push', lenH] at z
      omega
    have hL := above L F.ns.lt
    refine m_rest (s := { s with heap := ((s.heap.update a (Obj.mapSeq fun _ => (#[] : Array Value))).push (seqObj "tuple" vs.toArray 0)).push (seqObj "list" #[] 0) }) (kS := ((s.heap.update a (Obj.mapSeq fun _ => (#[] : Array Value))).push (seqObj "tuple" vs.toArray 0)).objs.size)
      ⟨(above a (Heap.lt_size ho)).symm, hL.symm, aL, Heap.get?_none_of_le ?_, a0, fun p hp => ⟨above _ (Heap.lt_size (N p hp).1), na p hp⟩⟩ ⟨(F1.push _).push _, fun p hp => ⟨up _ _ _ _ (up _ _ _ _ (N1 p hp).1), (N1 p hp).2⟩, Heap.get?_push_size _ rfl, up _ _ _ _ (up _ _ _ _ a1)⟩ hl hv turn h
    exact Nat.le_trans F.above (Nat.le_of_lt (by rw [size_push', lenH]; exact Nat.lt_succ_of_lt F.ns.lt))
  · exact Nat.le_of_succ_le (fit128 hv)
  · rw [List.size_toArray]
    exact Nat.le_of_succ_le (fit128 hv)
end
end L2
namespace L2
open PySem PySem.Spec PyProof.Rows
section
variable {P : Program} {w : World} {A : Around} {E : Value → Shared → Prop} {s : Shared}
/-- what is asked of «lambda y: x[y]», x a name of the def's -/
structure LamIt (prm : Arguments) (scope : Scope) (x y : Str) : Prop where
  co : scope.isCoroutine = false
  gen : scope.isGenerator = false
  kind : scope.kind = .function
  cell : ∀ z ∈ scope.names, z.2 ≠ .cell
  hy : scope.names.lookup y = some .local
  hx : scope.names.lookup x = some .free
  bind : ∀ (qn : Str) (body : Expr) (clos : List (Str × Addr)) (pm cdv ctv u : Value), bindArgs (PySem.W.kla_fn "<lambda>" qn prm body scope clos pm cdv ctv) ⟨[u], []⟩ = pure [(y, u)]
  dx : (x == ("__debug__" : Str)) = false
  dy : (y == ("__debug__" : Str)) = false
  dc : (x == ("__classdict__" : Str)) = false
/-- f(u), f such a lambda -/
theorem lam_item {qn x y : Str} {prm : Arguments} {scope : Scope} {clos : List (Str × Addr)} {pm ctv : Value} {c f cc D : Addr} {its : Array Value} {i : Int} {t : Tok} {v : Value} {p1 p2 p3 : Pos} {Q : Value → Shared → Prop} (L : LamIt prm scope x y)
    (hroom : A.depth < recursionLimit) (hlim : s.heap.NoLimit) (ho : s.heap.get? f = some (PySem.W.kla_obj "<lambda>" qn prm (.Subscript (.Name x p1) (.Name y p2) p3) scope clos pm c ctv)) (hcd : s.heap.CodeRec (.ref c) qn)
    (hcl : clos.lookup x = some cc) (hcc : s.heap.IsCell cc (some (.ref D))) (hD : s.heap.IsList D its) (hi : 0 ≤ i) (hfit : i < 2 ^ 63) (hv : its[i.toNat]? = some v)
    (h : ∀ h' tk, (∀ b o, s.heap.get? b = some o → h'.get? b = some o) → Q v { s with heap := h', toks := tk }) :
    wpAny (model P w) A (call (.ref f) [.int i t]) Q E s := by
  refine wpAny_call (PySem.W.kla_callFunE hroom ho rfl L.co L.gen rfl hcd ?_)
  rw [L.bind]
  refine wpAny_pure (wpAny_newFunctionEnv L.cell (fun z hz => by rw [List.mem_singleton.mp hz]; exact L.hy) (fun h₁ hns hsb => ⟨hlim.fresh _ hsb, ?_⟩) L.kind)
  show codeAny _ _ (.expr (.Subscript (.Name x p1) (.Name y p2) p3) (PySem.W.envX qn scope s.heap.objs.size f (.ref c) clos)) _ _
  have keep : ∀ b o, s.heap.get? b = some o → h₁.get? b = some o := fun b o e => hsb.extBut b o (Nat.ne_of_lt (Heap.lt_size e)) (Heap.get?_push_of_some _ e)
  have cell1 : h₁.IsCell cc (some (.ref D)) := let ⟨o, e, d⟩ := hcc; ⟨o, keep _ _ e, d⟩
  have list1 : h₁.IsList D its := let ⟨o, e, d⟩ := hD; ⟨o, keep _ _ e, d⟩
  refine PySem.W.kla_codeExpr (Subscript_ (wpAny_Name (wpAny_loadName_free L.kind L.hx hcl cell1 ?_ L.dc) L.dx))
  refine wpAny_Name (wpAny_loadName_local (m := fun z => [(y, Value.int i t)].reverse.lookup z) (v := .int i t) L.kind L.hy hns (by simp) ?_) L.dy
  exact item_listR list1 hi hfit hv (h h₁ _ keep)
end
section
variable {X : Cx} {pins : List (Addr × Obj)} {σ : St} {H : Hp} {s : Shared}
/-- the items of a range, sorted by keys that are looked up: the heap's side -/
theorem sorted_keys {P : Program} {w : World} {A : Around} {E : Value → Shared → Prop} {h₀ : Heap} {Lc : Addr} {m : Str → Option Value} {r f : Addr} {n : Nat} {t u v : Tok} {kz : List Int} {Q : Value → Shared → Prop} (hh : A.handled = none) (Fr0 : Fr h₀ Lc s.heap m) (hr : IsRange s.heap r 0 (n : Int) 1 t u v) (hn : n < 128)
    (hsm : Builtin.Range.small 0 (n : Int) 1 = true) (hrs : Builtin.Range.rangeSize 0 (n : Int) 1 = n) (hk : kz.length = n)
    (turn : ∀ (i : Nat) (tk0 : Tok) (k : Int), kz[i]? = some k → ∀ (h : Heap) (tk : Nat), (∀ b o, b ≠ Lc → s.heap.get? b = some o → h.get? b = some o) → Fr h₀ Lc h m →
      wpAny (model P w) A.in1.in1 (call (.ref f) [.int i tk0]) (fun v s' => ∃ h' tk' t', s' = { s with heap := h', toks := tk' } ∧ v = .int k t' ∧ ∀ b o, h.get? b = some o → h'.get? b = some o) (fun _ _ => False) { s with heap := h, toks := tk })
    (h : ∀ h' tk (D c : Nat) (out : List Value) (ms : List Int), (∀ b o, b ≠ Lc → s.heap.get? b = some o → h'.get? b = some o) → Fr h₀ Lc h' m → s.heap.objs.size ≤ D → h'.get? D = some { cls := .type "list", data := .seq out.toArray c } → IntsAre out ms →
      (∃ ps : List (Int × Int), ps.Perm (kz.zip ((List.range n).map fun (i : Nat) => (i : Int))) ∧ ms = ps.map Prod.snd ∧ ps.Pairwise fun p q => p.1 ≤ q.1) → Q (.ref D) { s with heap := h', toks := tk }) :
    wpAny (model P w) A (call (.builtin "sorted") [.ref r] [(Str.ofString "key", .ref f)]) Q E s := by
  refine call_function_entry_kw kind_sorted plain_sorted entry_sorted (ksk_s1 _ _) ?_
  unfold Builtin.«sorted»
  refine wpAny_bind (m := checkCount "sorted" 1 1 _) (wpAny_pure ?_)
  refine wpAny_bind (Wa.collect_rng (A := A.in1) hh hr hsm hrs (Nat.le_trans (Nat.le_of_lt hn) (by decide)) fun h1 tk1 xs keep1 hlt1 items => ?_)
  obtain ⟨hsz, hit⟩ := items
  have lv : xs.toList.length = n := by simpa using hsz
  have hi : ∀ (i : Nat) (u : Value), xs.toList[i]? = some u → ∃ t, u = .int (i : Int) t := fun i u hu => by
    obtain ⟨t, e⟩ := hit i u (by simpa using hu)
    exact ⟨t, by simpa using e⟩
  have F1 : Fr h₀ Lc h1 m := Fr0.kept keep1
  refine wpAny_bind (wpAny_newList ?_ (by rw [lv]; exact Nat.le_trans (Nat.le_of_lt hn) (by decide)))
  have hoL : (h1.push (seqObj "list" xs.toList.toArray 0)).get? h1.objs.size = some (seqObj "list" xs.toList.toArray 0) := Heap.get?_push_size _ rfl
  have keep2 : ∀ b o, h1.get? b = some o → (h1.push (seqObj "list" xs.toList.toArray 0)).get? b = some o := fun b o q => Heap.get?_push_of_some _ q
  have hL : Lc < h1.objs.size := F1.ns.lt
  have F2 := F1.kept keep2
  have ne1 : ∀ b o, s.heap.get? b = some o → b ≠ h1.objs.size := fun b o q => Nat.ne_of_lt (Heap.lt_size (keep1 b o q))
  refine wpAny_bind (wpAny_holding (wpAny_call_entry_kw (s := { s with heap := h1.push (seqObj "list" xs.toList.toArray 0), toks := tk1 }) slot_list_sort ⟨_, hoL, rfl⟩ entry_list_sort ?_ (ksk_l1 _ _)))
  show wpAny (model P w) A.in1.in1 (Builtin.«list.sort» ⟨[.ref h1.objs.size], [(Str.ofString "key", .ref f)]⟩) _ _ _
  rw [ksk_t1]
  have N2 : News h₀ Lc (h1.push (seqObj "list" xs.toList.toArray 0)) (rest h₀ (h1.push (seqObj "list" xs.toList.toArray 0)) Lc h1.objs.size) := fun p hp => news_all p (List.mem_filter.mp hp).1
  have old : ∀ g, Fr h₀ Lc g m → News h₀ Lc g (rest h₀ (h1.push (seqObj "list" xs.toList.toArray 0)) Lc h1.objs.size) → ∀ b o, b ≠ Lc → s.heap.get? b = some o → g.get? b = some o := fun g Fg Ng b o hb q =>
    kept_of_news F2.keep Fg Ng b o hb (ne1 b o q) (keep2 b o (keep1 b o q))
  refine m_sort (s := { s with heap := h1.push (seqObj "list" xs.toList.toArray 0), toks := tk1 }) (kz := kz) (vs := xs.toList) F2 N2 hoL (Nat.ne_of_gt hL) (Heap.get?_none_of_le (Nat.le_trans F1.above (Nat.le_of_lt hL))) rest_ne (by rw [hk, lv]) (by rw [lv]; exact hn) (fun i u k hu hk' g tk own Fg Ng => ?_) fun g tk out c Fg Ng ko => ⟨_, rfl, ?_⟩
  · obtain ⟨t0, rfl⟩ := hi i u hu
    refine wpAny_mono (turn i t0 k hk' g tk (old g Fg fun p hp => Ng p (List.mem_append_left _ hp)) Fg) (fun v s' hv => ?_) fun _ _ z => z
    obtain ⟨g', tk', t', rfl, rfl, keep3⟩ := hv
    exact ⟨g', tk', t', rfl, rfl, Fg.kept keep3, fun p hp => ⟨keep3 _ _ (Ng p hp).1, (Ng p hp).2⟩⟩
  · refine wpAny_pure ⟨_, rfl, ?_⟩
    obtain ⟨ps, hp, ho, hs⟩ := ko
    have intP : ∀ p, p ∈ ps → ∃ z t, p.2 = .int z t := fun p hp' => by
      obtain ⟨a, b⟩ := p
      have hb := (List.of_mem_zip (hp.mem_iff.mp hp')).2
      obtain ⟨j, hj, e⟩ := List.getElem_of_mem hb
      obtain ⟨t, e2⟩ := hi j b (by rw [List.getElem?_eq_getElem hj, e])
      exact ⟨_, t, e2⟩
    have allI : IntsAre out.toList (out.toList.map numOf) := intsAre_map _ fun v hv => by
      rw [ho] at hv
      obtain ⟨p, hp', rfl⟩ := List.mem_map.mp hv
      exact intP p hp'
    have nums : xs.toList.map numOf = (List.range n).map fun (i : Nat) => (i : Int) := by
      apply List.ext_getElem?
      intro i
      rw [List.getElem?_map, List.getElem?_map]
      by_cases hi' : i < n
      · have hj : i < xs.toList.length := by rw [lv]; exact hi'
        obtain ⟨t, e⟩ := hi i _ (List.getElem?_eq_getElem hj)
        rw [List.getElem?_eq_getElem hj, e, List.getElem?_eq_getElem (by simpa using hi')]
        simp [numOf]
      · rw [List.getElem?_eq_none (by rw [lv]; omega), List.getElem?_eq_none (by simp; omega)]
        rfl
    have hD := (Ng (h1.objs.size, seqObj "list" out c) (.head _)).1
    refine h g tk h1.objs.size c out.toList _ (old g Fg fun p hp' => Ng p (.tail _ hp')) Fg (Nat.le_of_lt hlt1) (by simpa using hD) allI ⟨ps.map fun p => (p.1, numOf p.2), ?_, ?_, ?_⟩
    · have e := hp.map fun p : Int × Value => (p.1, numOf p.2)
      have e2 : (kz.zip xs.toList).map (fun p : Int × Value => (p.1, numOf p.2)) = kz.zip ((List.range n).map fun (i : Nat) => (i : Int)) := by
        rw [← nums, List.zip_map_right]
        exact List.map_congr_left fun ⟨a, b⟩ _ => rfl
      rw [e2] at e
      exact e
    · rw [ho, List.map_map, List.map_map]
      rfl
    · rw [List.pairwise_map]
      exact hs.imp fun {a b} z => z
end
end L2
namespace L2
open PySem PySem.Spec PyProof.Rows
theorem boot_sorted : bootBuiltins "sorted" = some (.builtin "sorted") := by decide +kernel
/-- what sorted(range(n), key=..) tells: the numbers below n, their keys rising -/
structure ByKey (ks ms : List Int) : Prop where
  ex : ∃ ps : List (Int × Int), ps.Perm (ks.zip ((List.range ks.length).map fun (i : Nat) => (i : Int))) ∧ ms = ps.map Prod.snd ∧ ps.Pairwise fun p q => p.1 ≤ q.1
section
variable {X : Cx} {pins : List (Addr × Obj)} {σ : St} {H : Hp} {s : Shared} {h' : Heap} {t' : Nat}
/-- a new object; of the frame its names alone are known to stand -/
theorem Inv.laidF {m : Str → Option Value} {D : Addr} {o : HO} (I : Inv X pins σ H s) (F : Fr X.base X.env.locals s.heap m) (G : Fr X.base X.env.locals h' m) (k : ∀ b u, b ≠ X.env.locals → s.heap.get? b = some u → h'.get? b = some u) (hp : s.heap.objs.size ≤ D)
    (new : ObjOk X.prog X.w (upd H D o) h' D o) : Inv X pins σ (upd H D o) { s with heap := h', toks := t' } := by
  have fr : H D = none := I.hok.fresh hp
  have nl : ∀ b u, H b = some u → b ≠ X.env.locals := fun b u e z => by rw [z, I.free] at e; cases e
  refine I.step (g' := s.gens) (d' := s.drawn) (ch := []) (fun b hb => absurd hb (by simp)) (fun b u hb _ _ e _ => k b u hb e) (fun b u hb _ _ e _ => ⟨u.slots, k b u hb e⟩) (fun b u _ e n => ?_) (fun b u _ e => ?_) (fun b xs e => ?_) (fun b u v e => ?_) (fun b p q e => ?_) (fun m' hm => ?_) (fun a u e => ?_) I.bare
  · rw [upd_ne (Nat.ne_of_lt (Nat.lt_of_lt_of_le (Heap.lt_size e) hp))]; exact n
  · by_cases hb : b = X.env.locals
    · obtain ⟨u', _, _, e', _⟩ := G.ns
      rw [hb]; exact ⟨u', e'⟩
    · exact ⟨u, k b u hb e⟩
  · rw [upd_ne (ne_of_none e fr)]; exact e
  · rw [upd_ne (ne_of_none e fr)]; exact e
  · rw [upd_ne (ne_of_none e fr)]; exact e
  · rw [hm.eq_nsMap, ← F.ns.eq_nsMap]; exact G.ns
  · by_cases ha : a = D
    · rw [ha, upd_same] at e
      cases e
      rw [ha]
      exact new
    · rw [upd_ne ha] at e
      refine (I.hok a u e).stay (fun b v hb q => k b v ?_ q) (fun b q => by rw [upd_ne (ne_of_none q fr)]; exact q) fun b xs q => by rw [upd_ne (ne_of_none q fr)]; exact q
      rcases hb with z | z
      · rw [z]; exact nl a u e
      · exact nl b _ z
end
section
variable {X : Cx} {a : Expr} {ta : TA} {p pos kp lp p1 p2 p3 : Pos} {prm : Arguments} {scope : Scope} {x y qn : Str} {i : Nat} {P : Addr}
def tSortK (K : PySem.W.Frag) (P : Addr) (lp : Pos) (qn : Str) (i : Nat) (ta : TA) : TE := fun σ H Q => ta σ H fun vs H1 => ∃ r D, ∃ ks : List Int, vs = [.ref r] ∧ H1 r = some (RngO 0 (ks.length : Nat) 1 r) ∧ ks.length < 128 ∧ σ[i]? = some (some (.ref D)) ∧ SqL K H1 D (ks.map V.int) ∧
  H1 P = some (.tbl lp qn) ∧ ∀ L ms H', Same H1 H' → H1 L = none → H' L = some (.lst (ms.map V.int)) → ByKey ks ms → Q (.ref L) H'
theorem pe_sortK (L : LamOk X P) (Lt : LamIt prm scope x y) (hq : X.env.qual ++ "<lambda>" = qn) (hc : X.calm = true) (hrm : X.A.depth + 10 < recursionLimit) (hg : Gl X "sorted") (hm : X.mg "sorted" = none) (hN : X.N[i]? = some x) (hxs : X.env.scope.names.lookup x = some .cell)
    (ha : PA X [a] ta) (hs : starEach [a] X.env = [(false, eval a X.env)] := by rfl) (hdef : defaultsOf prm X.env = ([], []) := by rfl)
    (hcl : ∀ cc, X.env.cells.lookup x = some cc → closureFor scope X.env = pure [(x, cc)]) :
    PE X (.Call (.Name "sorted" p) [a] [⟨some "key", .Lambda prm (.Subscript (.Name x p1) (.Name y p2) p3) scope lp, kp⟩] pos) (tSortK X.K P lp qn i ta) := by
  intro pins s σ H Q I h
  refine wpAny_Call_Name_kw (ld_blt I hg hm boot_sorted ?_)
  refine callWith_kw (thn (ha pos pins s σ H _ I h) fun us s1 ⟨vs, H1, I1, r1, q1⟩ => ?_) (by rw [hs]; rfl) (by rw [hs]; rfl)
  obtain ⟨r, D, ks, e, hr, hn, hv, hD, hP, q⟩ := q1
  subst e
  obtain ⟨u, rfl, ru⟩ := vals1 r1
  obtain rfl : u = Value.ref r := ru
  obtain ⟨cc, ecc⟩ := I1.ok.has x (.inl (by unfold Env.kindOf; exact hxs))
  refine kws_cons (lam_made I1 L hP hq hdef (hcl cc ecc) fun f c pm ctv H2 s2 I2 s12 hf fr ef rec => kws_nil ?_)
  show wpAny _ _ (call (.builtin "sorted") [.ref r] [(Str.ofString "key", .ref f)]) _ _ _
  obtain ⟨m, Fm⟩ := I2.fr
  have nl : ∀ b o, s2.heap.get? b = some o → (∀ es ep, o.data ≠ .dict es ep) → b ≠ X.env.locals := fun b o e d z => by
    obtain ⟨o', es, ep, e', d', _⟩ := Fm.ns
    rw [z, e'] at e
    cases e
    exact d es ep d'
  obtain ⟨⟨t, u, v, hr2⟩, _⟩ := I2.hok r _ (s12 _ _ hr)
  obtain ⟨its, rv, pl, hz⟩ := I2.list (s12.seq hD)
  obtain ⟨ol, el, cl, nl2, dl⟩ := id pl.isList
  obtain ⟨mm, hns, hloc⟩ := I2.loc
  obtain ⟨uD, rD, lk⟩ := hloc i x (.ref D) hN hv (.inr (.inl hxs))
  obtain rfl : uD = Value.ref D := rD
  have hcell : s2.heap.IsCell cc (some (.ref D)) := by
    rcases lk with ⟨k1, _⟩ | ⟨_, c2, e2, k2⟩
    · unfold Env.kindOf at k1
      rw [hxs] at k1
      cases k1
    · rw [ecc] at e2
      cases e2
      exact k2
  have small : Builtin.Range.small 0 (ks.length : Int) 1 = true := by
    have : ∀ m : Nat, m < 129 → Builtin.Range.small 0 (m : Int) 1 = true := by decide +kernel
    exact this _ (by omega)
  have size : Builtin.Range.rangeSize 0 (ks.length : Int) 1 = ks.length := by
    have : ∀ m : Nat, m < 129 → Builtin.Range.rangeSize 0 (m : Int) 1 = (m : Int) := by decide +kernel
    exact this _ (by omega)
  refine sorted_keys (kz := ks) (I2.ok.hd hc) Fm hr2 hn small size rfl (fun j tk0 k hk h1 tk keep Fg => ?_) fun h1 tk D2 c2 out ms keep Fg hge eD allI hps => ?_
  · have hj : j < ks.length := (List.getElem?_eq_some_iff.mp hk).1
    obtain ⟨w', ew, rw'⟩ := rv.get (show (ks.map V.int)[j]? = some (.int k) from by rw [List.getElem?_map, hk]; rfl)
    obtain ⟨t', rfl⟩ := rw'
    obtain ⟨c0, oc, vs, tq, z1, z2, z3, z4⟩ := rec
    cases z1
    obtain ⟨oce, ee, de⟩ := hcell
    refine lam_item (i := (j : Int)) (its := its.toArray) Lt ?_ (I2.ok.mod.nolimit.keeps Fg.keep) (keep f _ (nl f _ ef fun es ep z => by cases z) ef) ⟨c, oc, vs, tq, rfl, keep c _ (nl c _ z2 fun es ep z => by rw [z3] at z; cases z) z2, z3, z4⟩ (cc := cc) (D := D) ?_ ⟨oce, keep cc _ (nl cc _ ee fun es ep z => by rw [de] at z; cases z) ee, de⟩ ⟨ol, keep D _ (nl D _ el fun es ep z => by rw [dl] at z; cases z) el, cl, nl2, dl⟩ (by omega) ?_ (by simpa using ew) fun h3 tk3 keep3 => ⟨h3, tk3, t', rfl, rfl, keep3⟩
    · have : X.A.in1.in1.depth < recursionLimit := by
        have e : X.A.in1.in1.depth = X.A.depth := rfl
        rw [e]
        omega
      exact this
    · simp
    · have := hj
      omega
  · have lm : ms.length = ks.length := by
      obtain ⟨ps, h1, h2, _⟩ := hps
      have := h1.length_eq
      rw [h2, List.length_map, this]
      simp
    have I3 := I2.laidF (t' := tk) (o := .lst (ms.map V.int)) Fm Fg keep hge ⟨by rw [List.length_map, lm]; exact Nat.le_trans (Nat.le_of_lt hn) (by decide), out, c2, vals_ints allI, eD⟩
    have fr2 : H2 D2 = none := I2.hok.fresh hge
    refine ⟨.ref D2, _, I3, rfl, q D2 ms _ (s12.upd fr2) ?_ upd_same ⟨hps⟩⟩
    cases e : H1 D2 with
    | none => rfl
    | some o => rw [s12 _ _ e] at fr2; cases fr2
end
end L2
namespace L2
open PySem PySem.Spec PyProof.Rows
/-- over the pairs of two lists, the second no longer than the first -/
theorem for_zipS {K : PySem.W.Frag} {tb : TS} {D : Ends} {σ : St} {H : Hp} {a b : Addr} {xs ys : List V} {i0 j0 : Nat} (hl : ys.length ≤ xs.length) (Pv : Nat → St → Hp → Prop) (h0 : Pv 0 σ H) (hq : ∀ i σ H, i ≤ ys.length → Pv i σ H → SqL K H a xs ∧ SqL K H b ys)
    (hs : ∀ i x y σ H H', xs[i]? = some x → ys[i]? = some y → Pv i σ H → Same H H' → tb { D with nx := Pv (i + 1), ct := Pv (i + 1), bk := D.nx } ((σ.set i0 (some x)).set j0 (some y)) H') (hd : ∀ σ H, Pv ys.length σ H → D.nx σ H) :
    ForW (Itz K a b) (gPair K i0 j0) tb D σ H := by
  refine for_itW Pv h0 (fun i σ H hi p => ?_) (fun σ H p => ?_) (fun i x σ H H' hi p y => ?_) hd
  · obtain ⟨q1, q2⟩ := hq i σ H (Nat.le_of_lt hi) p
    have hx : i < xs.length := Nat.lt_of_lt_of_le hi hl
    exact ⟨xs, ys, xs[i], ys[i], q1, q2, List.getElem?_eq_getElem hx, List.getElem?_eq_getElem hi⟩
  · obtain ⟨q1, q2⟩ := hq _ σ H (Nat.le_refl _) p
    exact ⟨xs, ys, q1, q2, .inr (Nat.le_refl _)⟩
  · obtain ⟨q1, q2⟩ := hq i σ H (Nat.le_of_lt hi) p
    obtain ⟨T, x, z, rfl, hT, rfl, hx⟩ := y
    obtain ⟨e1, e2⟩ := hx xs ys q1 q2
    exact gPair_of (.of upd_same) (hs i x z σ H _ e1 e2 p ((Same.refl H).upd hT))
/-- what is asked of the def whose lambda it is -/
theorem closure_one {scope : Scope} {env : Env} {x y : Str} {cc : Addr} (hn : scope.names = [(y, .local), (x, .free)]) (hc : env.cells.lookup x = some cc) : closureFor scope env = pure [(x, cc)] := by
  unfold closureFor cellOf
  rw [hn]
  simp [hc]
section
variable {P : Program} {w : World} {K : PySem.W.Frag} {mg : Str → Option Value} {base : Heap}
/-- the rule for a def whose code is asked -/
theorem Fun.okC {x qual : Str} {st : Stmt} {f : Addr} {fd : FuncData} {N ps : List Str} {k : Nat} {sp : Sp} (F : Fun K x qual st f fd) (S : FnScope N ps (defScope st)) (len : ∀ vs H Q E, sp vs H Q E → vs.length = ps.length)
    (hbody : ∀ (cdv : Value) (A : Around) (outer : List Env) (s : Shared) (H : Hp) (vs : List V) (Q : VK) (E : XK), fd.code = cdv → Room k (A.deeper (envOfC qual (defScope st) s.heap.objs.size f cdv)) → sp vs H Q E →
      ∃ t, PSs (cxOf CX0 P w K mg base N qual (defScope st) f cdv A outer s H E).nox (defBody st) t ∧ t { nx := fun _ H' => Q .non H', rt := Q } (start N vs) H) : FnOk P w K mg base CX0 (k + 1) f fd ps sp := by
  obtain ⟨oc, od, kV, doc, pm, an, cdv, ct, osl, rfl, lk, hcd⟩ := F.ex
  refine fn_of lk hcd S len fun A outer s H vs Q E hr hsp => ?_
  obtain ⟨t, h, q⟩ := hbody cdv A outer s H vs Q E rfl hr hsp
  exact ⟨t, h.nox, q⟩
end
end L2
namespace L2
open PySem PySem.Spec PyProof.Rows
section
variable {X : Cx}
end
end L2
namespace L2
open PySem PySem.Spec PyProof.Rows
/-- c is the code of a def, its table at Pt -/
structure TabAt1 (h : Heap) (c Pt : Addr) : Prop where
  hd : PySem.W.CodeHd h c Pt
  tab : h.get? Pt = some { cls := .none, data := .fields #[] }
theorem law_callT {P : Program} {w : World} {K : PySem.W.Frag} {mg mb : Str → Option Value} {k : Nat} {fa a c Pt bm : Addr} {ob : Obj} {fd : FuncData} {x : Str} {sp : Sp} {s₁ : Shared} {vs : List Value} {ns : List Int} {lp : Pos} {qn : Str}
    (KX : K.In s₁.heap) (hns : s₁.heap.Ns mainGlobals mg) (hb : s₁.heap.Ns builtinsNs mb) (hbb : ∀ x : Str, x ≠ "__name__" → mb x = bootBuiltins x) (hlim : s₁.heap.NoLimit) (hg : s₁.gens = #[])
    (b1 : mg "__builtins__" = some (.ref bm)) (b2 : bm ≠ builtinsNs) (b3 : s₁.heap.get? bm = some ob) (b4 : ob.cls = .type "module") (b5 : ob.dict = some builtinsNs) (b6 : ob.data = .plain) (hT : TabAt1 s₁.heap c Pt) (hKt : K.lookup Pt = none)
    (ha : s₁.heap.get? a = some { cls := .type "list", data := .seq vs.toArray }) (hi : IntsAre vs ns) (hl : ns.length ≤ sizeLine) (hr : Room k callerA)
    (F : ∀ base : Heap, K.In base → base.Ns mainGlobals mg → PySem.W.CodeHd base c Pt → base.BuiltinsAt mg Pt → FnOk P w K mg base CX0 k fa fd [x] sp) (hbind : ∀ (s : Shared) (u : Value), BindsTo s fd ⟨[u], []⟩ [(x, u)])
    (hsp : ∀ H : Hp, SqL K H a (ns.map V.int) → H Pt = some (.tbl lp qn) → sp [.ref a] H (fun v _ => v = .bl true) fun _ _ _ => False) :
    codeAny (model P w) callerA (.call (.ref fa) ⟨[.ref a], []⟩) (fun r s' => r = .ok (.ret (.bool true)) ∧ OldK s₁.heap s'.heap ∧ s'.os = s₁.os ∧ AllBare s'.gens) s₁ := by
  have rv := vals_ints hi
  have lenV := hi.length
  have aP : a ≠ Pt := fun z => by
    rw [z, hT.tab] at ha
    cases ha
  have core : ∀ H : Hp, SqL K H a (ns.map V.int) → H Pt = some (.tbl lp qn) → HOk P w H s₁.heap → (∀ b, H b ≠ none → b = a ∨ b = Pt) → (H a ≠ none → K.lookup a = none) → (H a = none ∨ ∃ o xs, H a = some (.frz o (.lst xs))) →
      codeAny (model P w) callerA (.call (.ref fa) ⟨[.ref a], []⟩) (fun r s' => r = .ok (.ret (.bool true)) ∧ OldK s₁.heap s'.heap ∧ s'.os = s₁.os ∧ AllBare s'.gens) s₁ := by
    intro H hS hP hok hA hK hO
    have free : ∀ {b : Addr} {o : Obj}, s₁.heap.get? b = some o → o.cls ≠ .type "list" → (o.cls ≠ .none ∨ ∃ es ep, o.data = .dict es ep) → H b = none := fun {b o} e n1 n2 => by
      cases q : H b with
      | none => rfl
      | some u =>
        rcases hA b (by rw [q]; simp) with z | z
        · rw [z, ha] at e
          cases e
          exact absurd rfl n1
        · rw [z, hT.tab] at e
          cases e
          rcases n2 with n2 | ⟨es, ep, n2⟩
          · exact absurd rfl n2
          · cases n2
    have nsK : ∀ {b : Addr} {m : Str → Option Value}, s₁.heap.Ns b m → (hidT s₁.heap H).Ns b m := fun {b m} ⟨o, es, ep, e, d, r⟩ => by
      refine ⟨o, es, ep, hidT_get e ?_, d, r⟩
      cases q : H b with
      | none => rfl
      | some u =>
        rcases hA b (by rw [q]; simp) with z | z
        · rw [z, ha] at e
          cases e
          cases d
        · rw [z, hT.tab] at e
          cases e
          cases d
    have hKb : K.In (hidT s₁.heap H) := fun b o e => hidT_get (KX b o e) (by
      cases q : H b with
      | none => rfl
      | some u =>
        rcases hA b (by rw [q]; simp) with z | z
        · subst z
          rw [hK (by rw [q]; simp)] at e
          cases e
        · rw [z, hKt] at e
          cases e)
    have hM : Mod K mg (hidT s₁.heap H) := ⟨hKb, nsK hns, ⟨mb, nsK hb, hbb⟩, let ⟨mc, h1, h2⟩ := hlim; ⟨mc, nsK h1, h2⟩⟩
    have hC : PySem.W.CodeHd (hidT s₁.heap H) c Pt := by
      obtain ⟨o, vs, file, tf, flags, tg, inF, text, tt, e1, e2, r⟩ := hT.hd
      exact ⟨o, vs, file, tf, flags, tg, inF, text, tt, hidT_get e1 (free e1 (by rw [e2]; decide) (.inl (by rw [e2]; intro z; cases z))), e2, r⟩
    have hB : (hidT s₁.heap H).BuiltinsAt mg Pt := by
      refine ⟨bm, ob, b1, b2, fun z => ?_, fun z => ?_, hidT_get b3 (free b3 (by rw [b4]; decide) (.inl (by rw [b4]; intro z; cases z))), b4, b5, b6⟩
      · obtain ⟨o, es, ep, e, d, _⟩ := hns
        rw [z, e] at b3
        cases b3
        rw [d] at b6
        cases b6
      · rw [z, hT.tab] at b3
        cases b3
        cases b4
    have e0 : Env0 P w K mg (hidT s₁.heap H) callerA [] s₁ H := ⟨rfl, hM, fun b o e => of_hidT e, Nat.le_of_eq (hidT_size _ _), trivial, fun b hb => absurd (show b ∈ ([] : List Addr) from hb) (by simp), hok, .of_eq hg⟩
    refine codeAny_mono ((F _ hKb (nsK hns) hC hB).run callerA [] s₁ H ⟨[.ref a], []⟩ [.ref a] [.ref a] _ _ hr e0 (hbind s₁ (.ref a)) (.cons rfl .nil) (hsp H hS hP)) fun r s' h => ?_
    cases r with
    | error e => exact h.elim
    | ok fl =>
      cases fl with
      | next => exact False.elim h
      | brk => exact False.elim h
      | cont => exact False.elim h
      | ret u =>
        obtain ⟨v, H', os, bare, un, hok', r', q⟩ := h
        have q' : v = .bl true := q
        subst q'
        obtain rfl : u = Value.bool true := r'
        have nx : ∀ b : Addr, b ∉ ([] : List Addr) := fun b => by simp
        refine ⟨rfl, ⟨fun b o e => ?_, fun b o e => un.there b o e (nx b)⟩, os, bare⟩
        cases q : H b with
        | none => exact .inl (un.keep b o e q (nx b) (nx b))
        | some u =>
          rcases hA b (by rw [q]; simp) with z | z
          · subst z
            rcases hO with z | ⟨o2, xs, z⟩
            · rw [q] at z; cases z
            · have z2 := un.frzs b o2 _ z
              obtain ⟨e1, _⟩ := hok b _ z
              obtain ⟨e2, _⟩ := hok' b _ z2
              rw [e] at e1; cases e1
              exact .inl e2
          · subst z
            have z2 := un.tbls b lp qn hP
            obtain ⟨ps, e2, _⟩ := (show ObjOk P w H' s'.heap b (.tbl lp qn) from hok' b _ z2)
            rw [hT.tab] at e
            cases e
            exact .inr (.inl ⟨(hT.hd.tab hT.tab).isCodeTable, rfl, #[], ps, rfl, by simpa using e2⟩)
  cases hk : K.lookup a with
  | some o =>
    have e := KX a o hk
    rw [ha] at e
    cases e
    refine core (fun b => if b = Pt then some (.tbl lp qn) else none) (.inr ⟨_, vs.toArray, _, hk, rfl, rfl, rfl, by rw [List.size_toArray, lenV]; exact hl, by simpa using rv⟩) (if_pos rfl) (fun b u z => ?_) (fun b z => ?_) (fun z => ?_) (.inl (if_neg aP))
    · by_cases hb' : b = Pt
      · have z' := (if_pos hb').symm.trans z
        cases z'
        rw [hb']
        exact ⟨#[], hT.tab, .inl rfl⟩
      · have z' := (if_neg hb').symm.trans z
        cases z'
    · by_cases hb' : b = Pt
      · exact .inr hb'
      · exact absurd (if_neg hb') z
    · exact absurd (if_neg aP) z
  | none =>
    refine core (fun b => if b = a then some (.frz { cls := .type "list", data := .seq vs.toArray } (.lst (ns.map V.int))) else if b = Pt then some (.tbl lp qn) else none) (.inl (.inr ⟨{ cls := .type "list", data := .seq vs.toArray }, if_pos rfl⟩)) ((if_neg aP.symm).trans (if_pos rfl)) (fun b u z => ?_) (fun b z => ?_) (fun _ => hk) (.inr ⟨_, _, if_pos rfl⟩)
    · by_cases hb' : b = a
      · have z' := (if_pos hb').symm.trans z
        cases z'
        subst hb'
        exact ⟨ha, by rw [List.length_map]; exact hl, vs, _, rv, ha⟩
      · have z' := (if_neg hb').symm.trans z
        by_cases hp : b = Pt
        · have z2 := (if_pos hp).symm.trans z'
          cases z2
          rw [hp]
          exact ⟨#[], hT.tab, .inl rfl⟩
        · have z2 := (if_neg hp).symm.trans z'
          cases z2
    · by_cases hb' : b = a
      · exact .inl hb'
      · by_cases hp : b = Pt
        · exact .inr hp
        · exact absurd ((if_neg hb').trans (if_neg hp)) z
/-- the goal that k_head leaves, from the law's promise -/
theorem walk_ofT {l : PySem.W.OpenLaw} {n k : Nat} {q : Program} {loose : List Str} {XP : (Str → Option Value) → Heap → Prop} {YP : World → Heap → Prop} {d dl : DefRec} {K : Params → PySem.W.Frag} {sp : World → Addr → Sp} {x y qn : Str} {lp : Pos}
    (hn : l.most = some n) (hn2 : n ≤ sizeLine) (hdf : d.params.defaults = []) (hr : Room k callerA)
    (hY : ∀ (w : World) (h : Heap), YP w h → (K w.params).In h) (hrec : (recsOf q).find? (fun e => e.name == y) = some dl)
    (F : ∀ (w : World) (mg : Str → Option Value) (fa : Addr) (h : Heap), (K w.params).In h → h.Ns mainGlobals mg → mg d.name = some (.ref fa) →
      ∃ (fd : FuncData) (c Pt : Addr), PySem.W.tabIn (K w.params) y = some (c, Pt) ∧ (K w.params).lookup Pt = none ∧ (∀ (s : Shared) (u : Value), BindsTo s fd ⟨[u], []⟩ [(x, u)]) ∧
        ∀ base : Heap, (K w.params).In base → base.Ns mainGlobals mg → PySem.W.CodeHd base c Pt → base.BuiltinsAt mg Pt → FnOk l.prog w (K w.params) mg base CX0 k fa fd [x] (sp w Pt))
    (hsp : ∀ (w : World) (H : Hp) (a Pt : Addr) (ns : List Int), ns.length ≤ n → SqL (K w.params) H a (ns.map V.int) → H Pt = some (.tbl lp qn) → sp w Pt [.ref a] H (fun v _ => v = .bl true) fun _ _ _ => False) :
    PySem.W.WalkO q loose XP YP l.row.toRowW d [] (fun f vs => PySem.call f vs) := by
  refine Att.attach_call hn hdf fun w s₀ s₁ mg mb fa o pm cd doc a vs ns G Y ho hd hcd hmg hobj hints hlen hg => ?_
  have KX := hY w _ Y
  obtain ⟨fd, c, Pt, ht, hKt, hb, hF⟩ := F w mg fa _ KX G.T.g hmg
  obtain ⟨h1, h2⟩ := PySem.W.tab_of G.T KX hrec ht
  obtain ⟨bm, ob, b1, b2, b3, b4, b5, b6⟩ := G.T.bmain
  exact law_callT KX G.T.g G.T.b G.T.builtins G.T.nolimit hg b1 b2 b3 b4 b5 b6 ⟨h1, h2⟩ hKt hobj hints (Nat.le_trans hlen hn2) hr hF hb fun H hS hP => hsp w H a Pt ns hlen hS hP
end L2
namespace Wa
open PySem PySem.Spec PyProof.Rows L2
def top (i : Nat) : Stmt := PySem.Challenge.pw_wholeahead_k02_whole_steps.main.body.getD i (.Pass ⟨0, 0, 0, 0⟩)
/-- a table's rows as values -/
def tabV (t : Tab) : List V := t.map fun r => V.str (rowS r)
theorem tabV_len (t : Tab) : (tabV t).length = t.length := by unfold tabV; rw [List.length_map]
theorem tabV_get {t : Tab} {i : Nat} {r : List Bool} (h : t[i]? = some r) : (tabV t)[i]? = some (.str (rowS r)) := by unfold tabV; rw [List.getElem?_map, h]; rfl
theorem tabV_strs (t : Tab) : tabV t = (t.map rowS).map V.str := by unfold tabV; rw [List.map_map]; rfl
theorem tabV_flat (t : Tab) : (tabV t).all flatV = true := by
  rw [List.all_eq_true]
  intro v hv
  obtain ⟨r, _, rfl⟩ := List.mem_map.mp hv
  rfl
theorem tab_eq {t u : Tab} : eqVs (tabV t) (tabV u) = decide (t = u) := by
  rw [tabV_strs, tabV_strs, eqVs_strs]
  have : (t.map rowS = u.map rowS) ↔ t = u := ⟨fun h => List.map_inj_right (fun _ _ => rowS_inj) |>.mp h, fun h => by rw [h]⟩
  simp [this]
/-- a small table, w signs a row -/
structure Tb (K : PySem.W.Frag) (H : Hp) (a : Addr) (t : Tab) (w : Nat) : Prop where
  at' : SqL K H a (tabV t)
  wid : Wid t w
  len : t.length ≤ 100
  wl : w ≤ 100
theorem Tb.same {K : PySem.W.Frag} {H H' : Hp} {a : Addr} {t : Tab} {w : Nat} (h : Tb K H a t w) (s : Same H H') : Tb K H' a t w := ⟨s.seq h.at', h.wid, h.len, h.wl⟩
theorem Tb.size {K : PySem.W.Frag} {H : Hp} {a : Addr} {t : Tab} {w : Nat} (h : Tb K H a t w) : (tabV t).length ≤ sizeLine := by rw [tabV_len]; exact Nat.le_trans h.len (by decide)
theorem Tb.row {K : PySem.W.Frag} {H : Hp} {a : Addr} {t : Tab} {w i : Nat} {r : List Bool} (h : Tb K H a t w) (e : t[i]? = some r) : r.length = w := h.wid r (List.mem_of_getElem? e)
theorem row_size {r : List Bool} (h : r.length ≤ 100) : (rowS r).length ≤ sizeLine := by rw [rowS_len]; exact Nat.le_trans h (by decide)
def spIsRow : Sp := fun vs H Q _ => ∃ r, vs = [.str (rowS r)] ∧ r.length ≤ 100 ∧ Q (.bl true) H
def spIsTable (K : PySem.W.Frag) : Sp := fun vs H Q _ => ∃ a t w, vs = [.ref a] ∧ Tb K H a t w ∧ ∀ H', Same H H' → Q (.bl true) H'
def spWidth (K : PySem.W.Frag) : Sp := fun vs H Q _ => ∃ a t w, vs = [.ref a] ∧ Tb K H a t w ∧ Q (.int (widT t)) H
def spIsNum : Sp := fun vs H Q _ => ∃ i, vs = [.int i] ∧ Q (.bl true) H
/-- a count below n -/
def isT (n : Nat) (u : Int) : Bool := decide (0 ≤ u) && decide (u < (n : Int))
def spIsRowC (K : PySem.W.Frag) : Sp := fun vs H Q _ => ∃ a t w i, vs = [.ref a, .int i] ∧ Tb K H a t w ∧ Q (.bl (isT t.length i)) H
def spCheck (K : PySem.W.Frag) : Sp := fun vs H Q _ => ∃ a t w, vs = [.ref a] ∧ Tb K H a t w ∧ ∀ H', Same H H' → Q .non H'
def colT (t : Tab) (j : Nat) : List Bool := t.map fun r => r.getD j false
def spColumn (K : PySem.W.Frag) : Sp := fun vs H Q _ => ∃ a t w j, vs = [.ref a, .int (j : Nat)] ∧ Tb K H a t w ∧ j < w ∧ ∀ H', Same H H' → Q (.str (rowS (colT t j))) H'
def spTurned (K : PySem.W.Frag) : Sp := fun vs H Q _ => ∃ a t w, vs = [.ref a] ∧ Tb K H a t w ∧ ∀ D H', Same H H' → H D = none → H' D = some (.lst (tabV (turnT t (widT t)))) → Q (.ref D) H'
theorem widT_cons (r : List Bool) (t : Tab) : widT (r :: t) = r.length := rfl
/-- one sign of a row -/
theorem row_at {r : List Bool} {j : Nat} (h : j < r.length) : atI (rowS r).cps.toList (j : Int) = some (sgn (r.getD j false)) := by
  apply atI_nat
  rw [rowS_list, List.getElem?_map]
  simp [h]
theorem ones_sum (bs : List Bool) : (((bs.map oneS).map (·.length)).sum) = bs.length := by
  induction bs with
  | nil => rfl
  | cons b bs ih =>
    rw [List.map_cons, List.map_cons, List.sum_cons, ih, List.length_cons]
    show 1 + _ = _
    omega
theorem join_ones (bs : List Bool) : Txt.join (Str.ofString "") (bs.map oneS) = rowS bs := by
  rw [e_is]
  exact glued_ones bs
def bitB (z : Int) (i : Nat) : Bool := decide (z / 2 ^ i % 2 = 1)
theorem mx_at (z : Int) : atI (Str.ofString "-x").cps.toList (Builtin.bitAnd z 1) = some (sgn (decide (z % 2 = 1))) := by
  rw [bitAnd_m1, mx_is]
  rcases Int.emod_two_eq z with h | h <;> rw [h] <;> rfl
def begI (code c at' : Int) : Int := if code % 3 = 0 then c % 17 else if code % 3 = 1 then c % 6 else c % 97 * 100 + at'
def addI3 (code c : Int) : Int := if code % 3 = 0 then c / 17 % 6 else 0
theorem three (x : Int) : x % 3 = 0 ∨ x % 3 = 1 ∨ x % 3 = 2 := by omega
theorem four (x : Int) : x % 4 = 0 ∨ x % 4 = 1 ∨ x % 4 = 2 ∨ x % 4 = 3 := by omega
theorem at3i (a b c x : Int) : atI [V.int a, V.int b, V.int c] (x % 3) = some (V.int (if x % 3 = 0 then a else if x % 3 = 1 then b else c)) := by
  rcases three x with h | h | h <;> rw [h] <;> rfl
theorem at4i (a b c d x : Int) : atI [V.int a, V.int b, V.int c, V.int d] (x % 4) = some (V.int (if x % 4 = 0 then a else if x % 4 = 1 then b else if x % 4 = 2 then c else d)) := by
  rcases four x with h | h | h | h <;> rw [h] <;> rfl
theorem if_zz (x a : Int) : (if x % 3 = 0 then a else if x % 3 = 1 then (0 : Int) else 0) = if x % 3 = 0 then a else 0 := by
  split
  · rfl
  · split <;> rfl
theorem four_le : 4 ≤ sizeLine := by decide
theorem ixN_nat {n i : Nat} (h : i < n) : ixN n (i : Int) = some i := by
  unfold ixN
  rw [if_pos (by omega), if_pos (by omega)]
  simp
theorem three_le : 3 ≤ sizeLine := by decide
theorem int_at {ns : List Int} {i : Nat} {x : V} (h : (ns.map V.int)[i]? = some x) : ∃ z, ns[i]? = some z ∧ x = .int z := by
  rw [List.getElem?_map] at h
  cases e : ns[i]? with
  | none => rw [e] at h; cases h
  | some z => rw [e] at h; exact ⟨z, rfl, (Option.some.inj h).symm⟩
def spTable (K : PySem.W.Frag) : Sp := fun vs H Q _ => ∃ (a : Addr) (ns : List Int), vs = [.ref a] ∧ SqL K H a (ns.map V.int) ∧ ns.length ≤ 63 ∧ ∀ D H' t, Same H H' → H D = none → H' D = some (.lst (tabV t)) → t.length = ns.length → Wid t ns.length → Q (.ref D) H'
/-- one sign turned -/
theorem flip_row {r : List Bool} {j : Nat} (h : j < r.length) : cutS (rowS r) none (some (j : Int)) ++ oneS (!(r.getD j false)) ++ cutS (rowS r) (some ((j : Int) + 1)) none = rowS (r.set j (!(r.getD j false))) := by
  have e1 : ((j : Int) + 1) = ((j + 1 : Nat) : Int) := by omega
  have l1 := rowS_len r
  apply ext_toList
  unfold cutS
  rw [e1, HT.sIx_nat, HT.sIx_nat, HT.sIx_none, HT.sIx_none, l1]
  rw [Nat.min_eq_left (by omega), Nat.min_eq_left (by omega), rowS_list, rowS_list]
  show (_ ++ _ ++ _ : Array Nat).toList = _
  simp only [Array.toList_append, List.drop_zero, Nat.sub_zero, oneS]
  rw [List.set_eq_take_append_cons_drop, if_pos h]
  simp [List.map_take, List.map_drop]
  rw [List.take_of_length_le (by rw [List.length_drop, List.length_map]; exact Nat.le_refl _)]
theorem set_wid {t : Tab} {n i : Nat} {r : List Bool} (h : Wid t n) (hr : r.length = n) : Wid (t.set i r) n := fun x hx => by
  rcases List.mem_or_eq_of_mem_set hx with q | q
  · exact h x q
  · rw [q]; exact hr
def spNumbers (K : PySem.W.Frag) : Sp := fun vs H Q _ => ∃ (a : Addr) (ns : List Int) (m : Int), vs = [.ref a, .int m] ∧ SqL K H a (ns.map V.int) ∧ ns.length ≤ 1000 ∧ ∀ H', Same H H' → Q (.bl (decide ((ns.length : Int) = m))) H'
theorem widT_le {K : PySem.W.Frag} {H : Hp} {a : Addr} {t : Tab} {n : Nat} (tb : Tb K H a t n) : widT t ≤ n := by
  cases t with
  | nil => exact Nat.zero_le _
  | cons r t => rw [widT_cons, tb.wid r List.mem_cons_self]; exact Nat.le_refl _
/-- a table turned is one too -/
theorem Tb.turn {K : PySem.W.Frag} {H H' : Hp} {a D : Addr} {t : Tab} {n : Nat} (tb : Tb K H a t n) (e : H' D = some (.lst (tabV (turnT t (widT t))))) : Tb K H' D (turnT t (widT t)) t.length :=
  ⟨.of e, turnT_wid _ _, by rw [turnT_len]; exact Nat.le_trans (widT_le tb) tb.wl, tb.len⟩
theorem ints_made (ns : List Int) : IntsAre (ns.map fun z => Value.int z 0) ns := by
  induction ns with
  | nil => exact .nil
  | cons z ns ih => exact .cons z 0 ih
theorem pick_ints (ns : List Int) (lo hi st : Option Int) : pickV (ns.map V.int) lo hi st = (pickNums ns lo hi st).map V.int := by
  unfold pickV pickNums
  rw [List.length_map]
  generalize sliceRange _ _ _ = ps
  induction ps with
  | nil => rfl
  | cons p ps ih =>
    rw [List.filterMap_cons, List.filterMap_cons, ih, List.getElem?_map]
    cases ns[p]? <;> rfl
theorem pick_len (ns : List Int) (lo hi st : Option Int) : (pickNums ns lo hi st).length ≤ ns.length := length_pickNums_le (ints_made ns) lo hi st
/-- what a comprehension over whole numbers gathers -/
def intM (g : Int → V) : V → Option V
  | .int z => some (g z)
  | _ => none
theorem intM_map (g : Int → V) (ns : List Int) : (ns.map V.int).filterMap (intM g) = ns.map g := by
  rw [List.filterMap_map, ← fm_some]
  rfl
theorem tabV_map {α : Type} (g : α → List Bool) (l : List α) : (l.map fun x => V.str (rowS (g x))) = tabV (l.map g) := by
  unfold tabV
  rw [List.map_map]
  rfl
theorem ones_map {α : Type} (g : α → Bool) (l : List α) : (l.map fun x => V.str (oneS (g x))) = ((l.map g).map oneS).map V.str := by
  rw [List.map_map, List.map_map]
  rfl
end Wa
namespace Wa
open PySem PySem.Spec PyProof.Rows L2
section
variable {P : Program} {w : World} {K : PySem.W.Frag} {mg : Str → Option Value} {base : Heap}
theorem S_is_row : FnScope ["row"] ["row"] (defScope (top 4)) := ⟨rfl, rfl, rfl, by decide +kernel, rfl, by decide +kernel, by decide +kernel⟩
theorem ok_is_row {f : Addr} {fd : FuncData} (F : Fun K "is_row" "is_row" (top 4) f fd) (T : Nm mg) : FnOk P w K mg base CX0 1 f fd ["row"] spIsRow := by
  have S := S_is_row
  refine F.ok S (fun vs H Q E h => ?_) (fun cdv A outer s H vs Q E hr h => ?_)
  · obtain ⟨r, rfl, _⟩ := h
    rfl
  · obtain ⟨r, rfl, hl, q⟩ := h
    refine ⟨_, (pss_one (ps_ret (pe_and (pe_callB call_isi (by rfl) T.n_isinstance bt_isinstance (pa_cons (pv 0) (pa_cons (pe_bltn (v := .ty "str") (by rfl) T.n_str bt_str rfl) pa_nil))) (pe_one (pe_cmpR op_eq (pe_op op_add (pe_bm PySem.F.plainAttrs_str PySem.F.slot_str_count PySem.F.type_str_count mt_count (pv 0) (pa_cons pe_str pa_nil)) (pe_bm PySem.F.plainAttrs_str PySem.F.slot_str_count PySem.F.type_str_count mt_count (pv 0) (pa_cons pe_str pa_nil))) (pe_callB call_len_str (by rfl) T.n_len bt_len (pa_cons (pv 0) pa_nil)) (nomark _)))))), ?_⟩
    dsimp only [cxComp, cxOf, Cx.wish, tRet, tRetN, tSeq, tNext, tIfS, tDrop, tNot, tB, tTest, tAnd, tOr, tAndV, tOrV, tNotV, tIf, tCB, tCons, tNil, tVar, tC, tOp, tUn, tBM, tBM0, tCall, tLst, tTup, tAsg, tPar, tSl, tSl3, tNoPart, tPart, tChain, tComp, tCompS, iList, iRng1, iRng2, iEnum, iZip, rI, rI0, rU, rEq, rNe, rIxL, rIxT, rIxS, rIx, rSlL, rSlS, rCat, rEqL, rIsi, rAppend, rPop, rSetL, gSub, tDGet, tDIn, sDPut, tDisp, tPairs, iZipX, rIsiO, tFld, tMeth, tMake, sFld, tOrO, iEnumT, tMaxD, tSortK, tDNewK]
    refine ⟨_, rfl, _, _, _, rfl, rfl, .inr (.inl rfl), _, rfl, iteTb rfl ?_⟩
    refine ⟨_, rfl, rfl, _, _, rfl, rfl, _, rfl, rfl, _, _, rfl, rfl, _, _, rfl, rfl, _, rfl, _, rfl, row_size hl, rfl, ?_⟩
    have e1 : (Builtin.Str.occurrences (rowS r) (Str.ofString "x") 0 (rowS r).length ((rowS r).length + 1)).length = (r.map sgn).count 120 := by
      rw [x_is, occ_one, rowS_list]
    have e2 : (Builtin.Str.occurrences (rowS r) (Str.ofString "-") 0 (rowS r).length ((rowS r).length + 1)).length = (r.map sgn).count 45 := by
      rw [m_is, occ_one, rowS_list]
    have e3 := rowS_count r
    have e : decide (V.int (((Builtin.Str.occurrences (rowS r) (Str.ofString "x") 0 (rowS r).length ((rowS r).length + 1)).length : Int) + ((Builtin.Str.occurrences (rowS r) (Str.ofString "-") 0 (rowS r).length ((rowS r).length + 1)).length : Int)) = V.int ((rowS r).length : Int)) = true := by
      rw [e1, e2, rowS_len, decide_eq_true_eq]
      congr 1
      omega
    have q' := q
    rw [← e] at q'
    exact q'
theorem S_is_table : FnScope ["table"] ["table"] (defScope (top 5)) := ⟨rfl, rfl, rfl, by decide +kernel, rfl, by decide +kernel, by decide +kernel⟩
theorem ok_is_table {f : Addr} {fd : FuncData} (F : Fun K "is_table" "is_table" (top 5) f fd) (T : Nm mg) (c_is_row : DefC P w K mg base 1 "is_row" ["row"] spIsRow) : FnOk P w K mg base CX0 2 f fd ["table"] (spIsTable K) := by
  have S := S_is_table
  refine F.ok S (fun vs H Q E h => ?_) (fun cdv A outer s H vs Q E hr h => ?_)
  · obtain ⟨a, t, w, rfl, _⟩ := h
    rfl
  · obtain ⟨a, t, n, rfl, tb, q⟩ := h
    refine ⟨_, (pss_cons (ps_if (pt_not (pt_val (pe_callB call_isi (by rfl) T.n_isinstance bt_isinstance (pa_cons (pv 0) (pa_cons (pe_bltn (v := .ty "list") (by rfl) T.n_list bt_list rfl) pa_nil))))) (pss_one (ps_ret pe_bl)) pss_nil)
      (pss_cons (ps_if (pt_not (pt_val (pe_callB (call_all rfl) (by rfl) T.n_all bt_all (pa_cons (pe_comp (N := ["row"]) (lift := [none]) (.of (by kernel_rfl)) (pi_list (pv 0)) (fun b => (pg_name (i := 0) (show (["row"] : List Str).Nodup from by decide +kernel) rfl (by first | exact Or.inl rfl | exact Or.inr rfl))) (fun b => pifs_nil) (fun b => (pe_callC c_is_row hr (by rfl) (pa_cons (pv 0) pa_nil)))) pa_nil)))) (pss_one (ps_ret pe_bl)) pss_nil)
      (pss_one (ps_ret (pe_callB (call_all rfl) (by rfl) T.n_all bt_all (pa_cons (pe_comp (N := ["row", "table"]) (lift := [none, some 0]) (.of (by kernel_rfl)) (pi_list (pv 0)) (fun b => (pg_name (i := 0) (show (["row", "table"] : List Str).Nodup from by decide +kernel) rfl (by first | exact Or.inl rfl | exact Or.inr rfl))) (fun b => pifs_nil) (fun b => (pe_cmpR op_eq (pe_callB call_len_str (by rfl) T.n_len bt_len (pa_cons (pv 0) pa_nil)) (pe_callB call_len_str (by rfl) T.n_len bt_len (pa_cons (pe_ix ix_list (pv 1) pe_int (fun _ _ => rfl)) pa_nil)) (nomark _)))) pa_nil)))))), ?_⟩
    dsimp only [cxComp, cxOf, Cx.wish, tRet, tRetN, tSeq, tNext, tIfS, tDrop, tNot, tB, tTest, tAnd, tOr, tAndV, tOrV, tNotV, tIf, tCB, tCons, tNil, tVar, tC, tOp, tUn, tBM, tBM0, tCall, tLst, tTup, tAsg, tPar, tSl, tSl3, tNoPart, tPart, tChain, tComp, tCompS, iList, iRng1, iRng2, iEnum, iZip, rI, rI0, rU, rEq, rNe, rIxL, rIxT, rIxS, rIx, rSlL, rSlS, rCat, rEqL, rIsi, rAppend, rPop, rSetL, gSub, tDGet, tDIn, sDPut, tDisp, tPairs, iZipX, rIsiO, tFld, tMeth, tMake, sFld, tOrO, iEnumT, tMaxD, tSortK, tDNewK]
    refine ⟨_, rfl, _, _, _, rfl, .inl ⟨rfl, _, tb.at'⟩, .inl rfl, _, rfl, iteFb rfl ?_⟩
    -- all([is_row(row) for row in table])
    refine ⟨_, rfl, a, rfl, ⟨_, tb.at'⟩, comp_list (fun _ => some (.bl true)) tb.at' tb.size (fun x hx => .map fun H1 k s1 hk => ?_) fun D H1 s1 n1 e1 => ?_⟩
    · obtain ⟨r, hr', rfl⟩ := List.mem_map.mp hx
      exact ⟨_, rfl, r, rfl, (by rw [tb.wid r hr']; exact tb.wl), hk _ (Same.refl _)⟩
    rw [fm_some] at e1
    have eb : (tabV t).map (fun _ => V.bl true) = (List.replicate t.length true).map V.bl := by
      rw [List.map_const', tabV_len, List.map_replicate]
    rw [eb] at e1
    refine ⟨D, _, rfl, .of e1, _, rfl, iteFb (by simp) ?_⟩
    -- all([len(row) == len(table[0]) for row in table])
    have tb1 := tb.same s1
    refine ⟨_, rfl, a, rfl, ⟨_, tb1.at'⟩, comp_list (fun _ => some (.bl true)) tb1.at' tb1.size (fun x hx => .map fun H2 k s2 hk => ?_) fun D2 H2 s2 n2 e2 => ?_⟩
    · obtain ⟨r, hr', rfl⟩ := List.mem_map.mp hx
      cases t with
      | nil => exact absurd hr' (by simp)
      | cons r0 t0 =>
        have hw := tb.wid r hr'
        have h0 := tb.wid r0 List.mem_cons_self
        have tb2 := tb1.same s2
        refine ⟨_, rfl, _, rfl, row_size (by rw [hw]; exact tb.wl), _, rfl, a, _, _, _, rfl, rfl, tb2.at', atI_nat (j := 0) (tabV_get (i := 0) rfl), _, rfl, row_size (by rw [h0]; exact tb.wl), rfl, ?_⟩
        have e : decide (V.int ((rowS r).length : Int) = V.int ((rowS r0).length : Int)) = true := by
          rw [rowS_len, rowS_len, hw, h0, decide_eq_true_eq]
        rw [e]
        exact hk _ (Same.refl _)
    rw [fm_some, eb] at e2
    refine ⟨D2, _, rfl, .of e2, ?_⟩
    have e : (List.replicate t.length true).all id = true := by simp
    rw [e]
    exact q H2 (s1.trans s2)
theorem S_width : FnScope ["table"] ["table"] (defScope (top 6)) := ⟨rfl, rfl, rfl, by decide +kernel, rfl, by decide +kernel, by decide +kernel⟩
theorem ok_width {f : Addr} {fd : FuncData} (F : Fun K "width" "width" (top 6) f fd) (T : Nm mg) : FnOk P w K mg base CX0 1 f fd ["table"] (spWidth K) := by
  have S := S_width
  refine F.ok S (fun vs H Q E h => ?_) (fun cdv A outer s H vs Q E hr h => ?_)
  · obtain ⟨a, t, w, rfl, _⟩ := h
    rfl
  · obtain ⟨a, t, n, rfl, tb, q⟩ := h
    refine ⟨_, (pss_one (ps_ret (pe_ifExp (pt_cmpR op_gt (pe_callB call_len_seq (by rfl) T.n_len bt_len (pa_cons (pv 0) pa_nil)) pe_int (nomark _)) (pe_callB call_len_str (by rfl) T.n_len bt_len (pa_cons (pe_ix ix_list (pv 0) pe_int (fun _ _ => rfl)) pa_nil)) pe_int))), ?_⟩
    dsimp only [cxComp, cxOf, Cx.wish, tRet, tRetN, tSeq, tNext, tIfS, tDrop, tNot, tB, tTest, tAnd, tOr, tAndV, tOrV, tNotV, tIf, tCB, tCons, tNil, tVar, tC, tOp, tUn, tBM, tBM0, tCall, tLst, tTup, tAsg, tPar, tSl, tSl3, tNoPart, tPart, tChain, tComp, tCompS, iList, iRng1, iRng2, iEnum, iZip, rI, rI0, rU, rEq, rNe, rIxL, rIxT, rIxS, rIx, rSlL, rSlS, rCat, rEqL, rIsi, rAppend, rPop, rSetL, gSub, tDGet, tDIn, sDPut, tDisp, tPairs, iZipX, rIsiO, tFld, tMeth, tMake, sFld, tOrO, iEnumT, tMaxD, tSortK, tDNewK]
    refine ⟨_, rfl, a, _, rfl, .inl tb.at', _, _, rfl, rfl, _, rfl, ?_⟩
    cases t with
    | nil => exact iteFb (by rw [tabV_len]; rfl) q
    | cons r t =>
      refine iteTb (by rw [tabV_len]; simp) ?_
      have hw := tb.wid r List.mem_cons_self
      refine ⟨_, rfl, a, _, _, _, rfl, rfl, tb.at', atI_nat (j := 0) (tabV_get (i := 0) rfl), _, rfl, row_size (by rw [hw]; exact tb.wl), ?_⟩
      rw [rowS_len]
      exact q
theorem S_is_number : FnScope ["value"] ["value"] (defScope (top 7)) := ⟨rfl, rfl, rfl, by decide +kernel, rfl, by decide +kernel, by decide +kernel⟩
theorem ok_is_number {f : Addr} {fd : FuncData} (F : Fun K "is_number" "is_number" (top 7) f fd) (T : Nm mg) : FnOk P w K mg base CX0 1 f fd ["value"] spIsNum := by
  have S := S_is_number
  refine F.ok S (fun vs H Q E h => ?_) (fun cdv A outer s H vs Q E hr h => ?_)
  · obtain ⟨i, rfl, _⟩ := h
    rfl
  · obtain ⟨i, rfl, q⟩ := h
    refine ⟨_, (pss_one (ps_ret (pe_and (pe_callB call_isi (by rfl) T.n_isinstance bt_isinstance (pa_cons (pv 0) (pa_cons (pe_bltn (v := .ty "int") (by rfl) T.n_int bt_int rfl) pa_nil))) (pe_one (pe_not (pe_callB call_isi (by rfl) T.n_isinstance bt_isinstance (pa_cons (pv 0) (pa_cons (pe_bltn (v := .ty "bool") (by rfl) T.n_bool bt_bool rfl) pa_nil)))))))), ?_⟩
    dsimp only [cxComp, cxOf, Cx.wish, tRet, tRetN, tSeq, tNext, tIfS, tDrop, tNot, tB, tTest, tAnd, tOr, tAndV, tOrV, tNotV, tIf, tCB, tCons, tNil, tVar, tC, tOp, tUn, tBM, tBM0, tCall, tLst, tTup, tAsg, tPar, tSl, tSl3, tNoPart, tPart, tChain, tComp, tCompS, iList, iRng1, iRng2, iEnum, iZip, rI, rI0, rU, rEq, rNe, rIxL, rIxT, rIxS, rIx, rSlL, rSlS, rCat, rEqL, rIsi, rAppend, rPop, rSetL, gSub, tDGet, tDIn, sDPut, tDisp, tPairs, iZipX, rIsiO, tFld, tMeth, tMake, sFld, tOrO, iEnumT, tMaxD, tSortK, tDNewK]
    refine ⟨_, rfl, _, _, _, rfl, rfl, .inr (.inr (.inl rfl)), _, rfl, iteTb rfl ?_⟩
    exact ⟨_, rfl, _, _, _, rfl, rfl, .inr (.inr (.inr rfl)), _, rfl, q⟩
theorem S_is_row_count : FnScope ["table", "value"] ["table", "value"] (defScope (top 8)) := ⟨rfl, rfl, rfl, by decide +kernel, rfl, by decide +kernel, by decide +kernel⟩
theorem ok_is_row_count {f : Addr} {fd : FuncData} (F : Fun K "is_row_count" "is_row_count" (top 8) f fd) (T : Nm mg) (c_is_number : DefC P w K mg base 1 "is_number" ["value"] spIsNum) : FnOk P w K mg base CX0 2 f fd ["table", "value"] (spIsRowC K) := by
  have S := S_is_row_count
  refine F.ok S (fun vs H Q E h => ?_) (fun cdv A outer s H vs Q E hr h => ?_)
  · obtain ⟨a, t, w, i, rfl, _⟩ := h
    rfl
  · obtain ⟨a, t, n, i, rfl, tb, q⟩ := h
    refine ⟨_, (pss_one (ps_ret (pe_and (pe_callC c_is_number hr (by rfl) (pa_cons (pv 1) pa_nil)) (pe_one (pe_chain op_le op_lt pe_int (pv 1) (pe_callB call_len_seq (by rfl) T.n_len bt_len (pa_cons (pv 0) pa_nil))))))), ?_⟩
    dsimp only [cxComp, cxOf, Cx.wish, tRet, tRetN, tSeq, tNext, tIfS, tDrop, tNot, tB, tTest, tAnd, tOr, tAndV, tOrV, tNotV, tIf, tCB, tCons, tNil, tVar, tC, tOp, tUn, tBM, tBM0, tCall, tLst, tTup, tAsg, tPar, tSl, tSl3, tNoPart, tPart, tChain, tComp, tCompS, iList, iRng1, iRng2, iEnum, iZip, rI, rI0, rU, rEq, rNe, rIxL, rIxT, rIxS, rIx, rSlL, rSlS, rCat, rEqL, rIsi, rAppend, rPop, rSetL, gSub, tDGet, tDIn, sDPut, tDisp, tPairs, iZipX, rIsiO, tFld, tMeth, tMake, sFld, tOrO, iEnumT, tMaxD, tSortK, tDNewK]
    unfold isT at q
    refine ⟨_, rfl, i, rfl, _, rfl, iteTb rfl ?_⟩
    refine ⟨_, rfl, _, _, rfl, rfl, _, rfl, ite_cases (fun h0 => ?_) fun h0 => ?_⟩
    · refine ⟨_, rfl, a, _, rfl, .inl tb.at', _, _, rfl, rfl, ?_⟩
      rw [h0] at q
      rw [tabV_len]
      exact q
    · rw [h0] at q
      exact q
theorem S_check_table : FnScope ["table"] ["table"] (defScope (top 11)) := ⟨rfl, rfl, rfl, by decide +kernel, rfl, by decide +kernel, by decide +kernel⟩
theorem ok_check_table {f : Addr} {fd : FuncData} (F : Fun K "check_table" "check_table" (top 11) f fd) (T : Nm mg) (c_is_table : DefC P w K mg base 2 "is_table" ["table"] (spIsTable K)) : FnOk P w K mg base CX0 3 f fd ["table"] (spCheck K) := by
  have S := S_check_table
  refine F.ok S (fun vs H Q E h => ?_) (fun cdv A outer s H vs Q E hr h => ?_)
  · obtain ⟨a, t, w, rfl, _⟩ := h
    rfl
  · obtain ⟨a, t, n, rfl, tb, q⟩ := h
    refine ⟨_, (pss_one (ps_if (pt_not (pt_val (pe_callC c_is_table hr (by rfl) (pa_cons (pv 0) pa_nil)))) (pss_one ps_never) pss_nil)), ?_⟩
    dsimp only [cxComp, cxOf, Cx.wish, tRet, tRetN, tSeq, tNext, tIfS, tDrop, tNot, tB, tTest, tAnd, tOr, tAndV, tOrV, tNotV, tIf, tCB, tCons, tNil, tVar, tC, tOp, tUn, tBM, tBM0, tCall, tLst, tTup, tAsg, tPar, tSl, tSl3, tNoPart, tPart, tChain, tComp, tCompS, iList, iRng1, iRng2, iEnum, iZip, rI, rI0, rU, rEq, rNe, rIxL, rIxT, rIxS, rIx, rSlL, rSlS, rCat, rEqL, rIsi, rAppend, rPop, rSetL, gSub, tDGet, tDIn, sDPut, tDisp, tPairs, iZipX, rIsiO, tFld, tMeth, tMake, sFld, tOrO, iEnumT, tMaxD, tSortK, tDNewK]
    exact ⟨_, rfl, a, t, n, rfl, tb, fun H1 s1 => ⟨_, rfl, iteFb rfl (q H1 s1)⟩⟩
theorem S_column_signs : FnScope ["table", "column"] ["table", "column"] (defScope (top 12)) := ⟨rfl, rfl, rfl, by decide +kernel, rfl, by decide +kernel, by decide +kernel⟩
theorem ok_column_signs {f : Addr} {fd : FuncData} (F : Fun K "column_signs" "column_signs" (top 12) f fd) (T : Nm mg) : FnOk P w K mg base CX0 1 f fd ["table", "column"] (spColumn K) := by
  have S := S_column_signs
  refine F.ok S (fun vs H Q E h => ?_) (fun cdv A outer s H vs Q E hr h => ?_)
  · obtain ⟨a, t, w, j, rfl, _⟩ := h
    rfl
  · obtain ⟨a, t, n, j, rfl, tb, hj, q⟩ := h
    refine ⟨_, (pss_one (ps_ret (pe_bm PySem.F.plainAttrs_str PySem.F.slot_str_join PySem.F.type_str_join mt_join pe_str (pa_cons (pe_comp (N := ["row", "column"]) (lift := [none, some 1]) (.of (by kernel_rfl)) (pi_list (pv 0)) (fun b => (pg_name (i := 0) (show (["row", "column"] : List Str).Nodup from by decide +kernel) rfl (by first | exact Or.inl rfl | exact Or.inr rfl))) (fun b => pifs_nil) (fun b => (pe_ix ix_str (pv 0) (pv 1) (fun _ _ => rfl)))) pa_nil)))), ?_⟩
    dsimp only [cxComp, cxOf, Cx.wish, tRet, tRetN, tSeq, tNext, tIfS, tDrop, tNot, tB, tTest, tAnd, tOr, tAndV, tOrV, tNotV, tIf, tCB, tCons, tNil, tVar, tC, tOp, tUn, tBM, tBM0, tCall, tLst, tTup, tAsg, tPar, tSl, tSl3, tNoPart, tPart, tChain, tComp, tCompS, iList, iRng1, iRng2, iEnum, iZip, rI, rI0, rU, rEq, rNe, rIxL, rIxT, rIxS, rIx, rSlL, rSlS, rCat, rEqL, rIsi, rAppend, rPop, rSetL, gSub, tDGet, tDIn, sDPut, tDisp, tPairs, iZipX, rIsiO, tFld, tMeth, tMake, sFld, tOrO, iEnumT, tMaxD, tSortK, tDNewK]
    refine ⟨rfl, _, rfl, a, rfl, ⟨_, tb.at'⟩, comp_list (fun x => match x with | .str z => some (.str ⟨#[(z.cps.toList[j]?).getD 0]⟩) | _ => none) tb.at' tb.size (fun x hx => ?_) fun D H1 s1 n1 e1 => ?_⟩
    · obtain ⟨r, hr', rfl⟩ := List.mem_map.mp hx
      have hw := tb.wid r hr'
      refine .map fun H1 k s1 hk => ?_
      refine ⟨_, rfl, _, rfl, _, _, _, rfl, rfl, row_size (by rw [hw]; exact tb.wl), row_at (by rw [hw]; exact hj), ?_⟩
      have e : ((rowS r).cps.toList[j]?).getD 0 = sgn (r.getD j false) := by
        rw [rowS_list, List.getElem?_map]
        have : j < r.length := by rw [hw]; exact hj
        simp [this]
      have h2 := hk _ (Same.refl _)
      rw [e] at h2
      exact h2
    have e2 : (tabV t).filterMap (fun x => match x with | .str z => some (.str ⟨#[(z.cps.toList[j]?).getD 0]⟩) | _ => none) = ((colT t j).map oneS).map V.str := by
      unfold tabV colT
      rw [List.filterMap_map, List.map_map, List.map_map]
      rw [← fm_some]
      apply fm_congr
      intro r hr'
      have hw := tb.wid r hr'
      have : j < r.length := by rw [hw]; exact hj
      have e : ((rowS r).cps.toList[j]?).getD 0 = sgn (r.getD j false) := by
        rw [rowS_list, List.getElem?_map]
        simp [this]
      show some (V.str ⟨#[((rowS r).cps.toList[j]?).getD 0]⟩) = some (V.str (oneS (r.getD j false)))
      rw [e]
      rfl
    rw [e2] at e1
    refine ⟨_, D, _, rfl, rfl, .of e1, ?_, ?_⟩
    · rw [ones_sum, List.length_map]
      have : (colT t j).length = t.length := by unfold colT; rw [List.length_map]
      have h3 := tb.len
      rw [e_is]
      show _ + _ * 0 ≤ _
      omega
    · rw [join_ones]
      exact q H1 s1
theorem S_turned : FnScope ["table"] ["table"] (defScope (top 13)) := ⟨rfl, rfl, rfl, by decide +kernel, rfl, by decide +kernel, by decide +kernel⟩
theorem ok_turned {f : Addr} {fd : FuncData} (F : Fun K "turned" "turned" (top 13) f fd) (T : Nm mg) (c_check_table : DefC P w K mg base 3 "check_table" ["table"] (spCheck K)) (c_width : DefC P w K mg base 1 "width" ["table"] (spWidth K))
    (c_column_signs : DefC P w K mg base 1 "column_signs" ["table", "column"] (spColumn K)) : FnOk P w K mg base CX0 4 f fd ["table"] (spTurned K) := by
  have S := S_turned
  refine F.ok S (fun vs H Q E h => ?_) (fun cdv A outer s H vs Q E hr h => ?_)
  · obtain ⟨a, t, w, rfl, _⟩ := h
    rfl
  · obtain ⟨a, t, n, rfl, tb, q⟩ := h
    refine ⟨_, (pss_cons (ps_expr (pe_callC c_check_table hr (by rfl) (pa_cons (pv 0) pa_nil)))
      (pss_one (ps_ret (pe_comp (N := ["column", "table"]) (lift := [none, some 0]) (.of (by kernel_rfl)) (pi_range1 (by rfl) T.n_range (pa_cons (pe_callC c_width hr (by rfl) (pa_cons (pv 0) pa_nil)) pa_nil)) (fun b => (pg_name (i := 0) (show (["column", "table"] : List Str).Nodup from by decide +kernel) rfl (by first | exact Or.inl rfl | exact Or.inr rfl))) (fun b => pifs_nil) (fun b => (pe_callC c_column_signs hr (by rfl) (pa_cons (pv 1) (pa_cons (pv 0) pa_nil)))))))), ?_⟩
    dsimp only [cxComp, cxOf, Cx.wish, tRet, tRetN, tSeq, tNext, tIfS, tDrop, tNot, tB, tTest, tAnd, tOr, tAndV, tOrV, tNotV, tIf, tCB, tCons, tNil, tVar, tC, tOp, tUn, tBM, tBM0, tCall, tLst, tTup, tAsg, tPar, tSl, tSl3, tNoPart, tPart, tChain, tComp, tCompS, iList, iRng1, iRng2, iEnum, iZip, rI, rI0, rU, rEq, rNe, rIxL, rIxT, rIxS, rIx, rSlL, rSlS, rCat, rEqL, rIsi, rAppend, rPop, rSetL, gSub, tDGet, tDIn, sDPut, tDisp, tPairs, iZipX, rIsiO, tFld, tMeth, tMake, sFld, tOrO, iEnumT, tMaxD, tSortK, tDNewK]
    refine ⟨_, rfl, a, t, n, rfl, tb, fun H1 s1 => ?_⟩
    have tb1 := tb.same s1
    have hwl : widT t ≤ n := by
      cases t with
      | nil => exact Nat.zero_le _
      | cons r t => rw [widT_cons, tb.wid r List.mem_cons_self]; exact Nat.le_refl _
    have hw100 := tb.wl
    refine ⟨_, rfl, a, t, n, rfl, tb1, _, rfl, (by omega), (by omega), ?_⟩
    rw [Int.toNat_natCast]
    refine comp_range (fun i => some (.str (rowS (colT t i)))) (Nat.le_trans (Nat.le_trans hwl hw100) (by decide)) (fun i hi => .map fun H2 k s2 hk => ?_) fun D H2 s2 n2 e2 => ?_
    · refine ⟨_, rfl, _, rfl, a, t, n, i, (by simp), tb1.same s2, (by omega), fun H3 s3 => hk H3 s3⟩
    · refine q D H2 (s1.trans s2) (s1.free n2) ?_
      rw [e2, fm_some]
      unfold tabV turnT colT
      rw [List.map_map]
      rfl
end
end Wa
namespace Wa
open PySem PySem.Spec PyProof.Rows L2
/-- the sign at a row and a column, where there is one -/
def atT (t : Tab) (i j : Int) : Option Bool := if 0 ≤ i ∧ 0 ≤ j then (t[i.toNat]?).bind fun r => r[j.toNat]? else none
theorem atT_in {t : Tab} {i j : Nat} {r : List Bool} (e : t[i]? = some r) (hj : j < r.length) : atT t i j = some (r.getD j false) := by
  unfold atT
  rw [if_pos ⟨Int.natCast_nonneg _, Int.natCast_nonneg _⟩, Int.toNat_natCast, Int.toNat_natCast, e]
  show r[j]? = _
  rw [List.getD_eq_getElem?_getD, List.getElem?_eq_getElem hj]
  rfl
theorem atT_i0 {t : Tab} {i j : Int} (h : ¬ 0 ≤ i) : atT t i j = none := if_neg fun z => h z.1
theorem atT_j0 {t : Tab} {i j : Int} (h : ¬ 0 ≤ j) : atT t i j = none := if_neg fun z => h z.2
theorem atT_i1 {t : Tab} {i j : Int} (h : ¬ i < t.length) : atT t i j = none := by
  unfold atT
  split
  · rename_i z
    rw [List.getElem?_eq_none (by omega)]
    rfl
  · rfl
theorem atT_j1 {t : Tab} {i j : Int} {r : List Bool} (hi : 0 ≤ i) (e : t[i.toNat]? = some r) (h : ¬ j < r.length) : atT t i j = none := by
  unfold atT
  split
  · rename_i z
    rw [e]
    show r[j.toNat]? = none
    exact List.getElem?_eq_none (by omega)
  · rfl
def spSign (K : PySem.W.Frag) (b : Bool) : Sp := fun vs H Q _ => ∃ a t w i j, vs = [.ref a, .int i, .int j] ∧ Tb K H a t w ∧ Q (.bl (atT t i j == some b)) H
/-- four signs crosswise -/
def crossT (t : Tab) (i j k l : Int) : Bool := (atT t i j == some true) && (atT t k l == some true) && (atT t i l == some false) && (atT t k j == some false)
def spCross (K : PySem.W.Frag) : Sp := fun vs H Q _ => ∃ a t w i j k l, vs = [.ref a, .int i, .int j, .int k, .int l] ∧ Tb K H a t w ∧ Q (.bl (crossT t i j k l)) H
section
variable {P : Program} {w : World} {K : PySem.W.Frag} {mg : Str → Option Value} {base : Heap}
theorem S__law_has : FnScope ["_law_table_here", "_law_row", "_law_column"] ["_law_table_here", "_law_row", "_law_column"] (defScope (top 43)) := ⟨rfl, rfl, rfl, by decide +kernel, rfl, by decide +kernel, by decide +kernel⟩
theorem ok__law_has {f : Addr} {fd : FuncData} (F : Fun K "_law_has" "_law_has" (top 43) f fd) (T : Nm mg) : FnOk P w K mg base CX0 1 f fd ["_law_table_here", "_law_row", "_law_column"] (spSign K true) := by
  have S := S__law_has
  refine F.ok S (fun vs H Q E h => ?_) (fun cdv A outer s H vs Q E hr h => ?_)
  · obtain ⟨a, t, w, i, j, rfl, _⟩ := h
    rfl
  · obtain ⟨a, t, n, i, j, rfl, tb, q⟩ := h
    refine ⟨_, (pss_one (ps_ret (pe_and (pe_chain op_le op_lt pe_int (pv 1) (pe_callB call_len_seq (by rfl) T.n_len bt_len (pa_cons (pv 0) pa_nil))) (pe_and (pe_chain op_le op_lt pe_int (pv 2) (pe_callB call_len_str (by rfl) T.n_len bt_len (pa_cons (pe_ix ix_list (pv 0) (pv 1) (fun _ _ => rfl)) pa_nil))) (pe_one (pe_cmpR op_eq (pe_ix ix_str (pe_ix ix_list (pv 0) (pv 1) (fun _ _ => rfl)) (pv 2) (fun _ _ => rfl)) pe_str (nomark _))))))), ?_⟩
    dsimp only [cxComp, cxOf, Cx.wish, tRet, tRetN, tSeq, tNext, tIfS, tDrop, tNot, tB, tTest, tAnd, tOr, tAndV, tOrV, tNotV, tIf, tCB, tCons, tNil, tVar, tC, tOp, tUn, tBM, tBM0, tCall, tLst, tTup, tAsg, tPar, tSl, tSl3, tNoPart, tPart, tChain, tComp, tCompS, iList, iRng1, iRng2, iEnum, iZip, rI, rI0, rU, rEq, rNe, rIxL, rIxT, rIxS, rIx, rSlL, rSlS, rCat, rEqL, rIsi, rAppend, rPop, rSetL, gSub, tDGet, tDIn, sDPut, tDisp, tPairs, iZipX, rIsiO, tFld, tMeth, tMake, sFld, tOrO, iEnumT, tMaxD, tSortK, tDNewK]
    have no : atT t i j = none → Q (V.bl false) H := fun e => by
      rw [e] at q
      exact q
    refine ⟨_, rfl, _, _, rfl, rfl, _, rfl, ite_cases (fun h0 => ?_) fun h0 => ⟨_, rfl, iteFb rfl (no (atT_i0 (of_decide_eq_false h0)))⟩⟩
    have i0 : 0 ≤ i := of_decide_eq_true h0
    obtain ⟨i, rfl⟩ : ∃ m : Nat, i = (m : Int) := ⟨i.toNat, by omega⟩
    refine ⟨_, rfl, a, _, rfl, .inl tb.at', _, _, rfl, rfl, _, rfl, ?_⟩
    rw [tabV_len]
    refine ite_cases (fun h1 => ?_) fun h1 => no (atT_i1 (of_decide_eq_false h1))
    have i1 : (i : Int) < t.length := of_decide_eq_true h1
    obtain ⟨r, er⟩ : ∃ r, t[i]? = some r := ⟨_, List.getElem?_eq_getElem (show i < t.length by omega)⟩
    have hw := tb.row er
    refine ⟨_, rfl, _, _, rfl, rfl, _, rfl, ite_cases (fun h2 => ?_) fun h2 => ⟨_, rfl, iteFb rfl (no (atT_j0 (of_decide_eq_false h2)))⟩⟩
    have j0 : 0 ≤ j := of_decide_eq_true h2
    obtain ⟨j, rfl⟩ : ∃ m : Nat, j = (m : Int) := ⟨j.toNat, by omega⟩
    refine ⟨_, rfl, _, rfl, a, _, _, _, rfl, rfl, tb.at', atI_nat (tabV_get er), _, rfl, row_size (by rw [hw]; exact tb.wl), _, _, rfl, rfl, _, rfl, ?_⟩
    rw [rowS_len]
    refine ite_cases (fun h3 => ?_) fun h3 => no (atT_j1 (Int.natCast_nonneg _) (by rw [Int.toNat_natCast]; exact er) (of_decide_eq_false h3))
    have j1 : (j : Int) < r.length := of_decide_eq_true h3
    refine ⟨_, rfl, _, rfl, a, _, _, _, rfl, rfl, tb.at', atI_nat (tabV_get er), _, rfl, _, _, _, rfl, rfl, row_size (by rw [hw]; exact tb.wl), row_at (by omega), rfl, ?_⟩
    rw [atT_in er (by omega)] at q
    have key : decide (V.str ⟨#[sgn (r.getD j false)]⟩ = V.str (Str.ofString "x")) = (some (r.getD j false) == some true) := by
      rw [x_is]
      cases r.getD j false <;> decide
    rw [key]
    exact q
theorem S__law_hasnt : FnScope ["_law_table_here", "_law_row", "_law_column"] ["_law_table_here", "_law_row", "_law_column"] (defScope (top 44)) := ⟨rfl, rfl, rfl, by decide +kernel, rfl, by decide +kernel, by decide +kernel⟩
theorem ok__law_hasnt {f : Addr} {fd : FuncData} (F : Fun K "_law_hasnt" "_law_hasnt" (top 44) f fd) (T : Nm mg) : FnOk P w K mg base CX0 1 f fd ["_law_table_here", "_law_row", "_law_column"] (spSign K false) := by
  have S := S__law_hasnt
  refine F.ok S (fun vs H Q E h => ?_) (fun cdv A outer s H vs Q E hr h => ?_)
  · obtain ⟨a, t, w, i, j, rfl, _⟩ := h
    rfl
  · obtain ⟨a, t, n, i, j, rfl, tb, q⟩ := h
    refine ⟨_, (pss_one (ps_ret (pe_and (pe_chain op_le op_lt pe_int (pv 1) (pe_callB call_len_seq (by rfl) T.n_len bt_len (pa_cons (pv 0) pa_nil))) (pe_and (pe_chain op_le op_lt pe_int (pv 2) (pe_callB call_len_str (by rfl) T.n_len bt_len (pa_cons (pe_ix ix_list (pv 0) (pv 1) (fun _ _ => rfl)) pa_nil))) (pe_one (pe_cmpR op_eq (pe_ix ix_str (pe_ix ix_list (pv 0) (pv 1) (fun _ _ => rfl)) (pv 2) (fun _ _ => rfl)) pe_str (nomark _))))))), ?_⟩
    dsimp only [cxComp, cxOf, Cx.wish, tRet, tRetN, tSeq, tNext, tIfS, tDrop, tNot, tB, tTest, tAnd, tOr, tAndV, tOrV, tNotV, tIf, tCB, tCons, tNil, tVar, tC, tOp, tUn, tBM, tBM0, tCall, tLst, tTup, tAsg, tPar, tSl, tSl3, tNoPart, tPart, tChain, tComp, tCompS, iList, iRng1, iRng2, iEnum, iZip, rI, rI0, rU, rEq, rNe, rIxL, rIxT, rIxS, rIx, rSlL, rSlS, rCat, rEqL, rIsi, rAppend, rPop, rSetL, gSub, tDGet, tDIn, sDPut, tDisp, tPairs, iZipX, rIsiO, tFld, tMeth, tMake, sFld, tOrO, iEnumT, tMaxD, tSortK, tDNewK]
    have no : atT t i j = none → Q (V.bl false) H := fun e => by
      rw [e] at q
      exact q
    refine ⟨_, rfl, _, _, rfl, rfl, _, rfl, ite_cases (fun h0 => ?_) fun h0 => ⟨_, rfl, iteFb rfl (no (atT_i0 (of_decide_eq_false h0)))⟩⟩
    have i0 : 0 ≤ i := of_decide_eq_true h0
    obtain ⟨i, rfl⟩ : ∃ m : Nat, i = (m : Int) := ⟨i.toNat, by omega⟩
    refine ⟨_, rfl, a, _, rfl, .inl tb.at', _, _, rfl, rfl, _, rfl, ?_⟩
    rw [tabV_len]
    refine ite_cases (fun h1 => ?_) fun h1 => no (atT_i1 (of_decide_eq_false h1))
    have i1 : (i : Int) < t.length := of_decide_eq_true h1
    obtain ⟨r, er⟩ : ∃ r, t[i]? = some r := ⟨_, List.getElem?_eq_getElem (show i < t.length by omega)⟩
    have hw := tb.row er
    refine ⟨_, rfl, _, _, rfl, rfl, _, rfl, ite_cases (fun h2 => ?_) fun h2 => ⟨_, rfl, iteFb rfl (no (atT_j0 (of_decide_eq_false h2)))⟩⟩
    have j0 : 0 ≤ j := of_decide_eq_true h2
    obtain ⟨j, rfl⟩ : ∃ m : Nat, j = (m : Int) := ⟨j.toNat, by omega⟩
    refine ⟨_, rfl, _, rfl, a, _, _, _, rfl, rfl, tb.at', atI_nat (tabV_get er), _, rfl, row_size (by rw [hw]; exact tb.wl), _, _, rfl, rfl, _, rfl, ?_⟩
    rw [rowS_len]
    refine ite_cases (fun h3 => ?_) fun h3 => no (atT_j1 (Int.natCast_nonneg _) (by rw [Int.toNat_natCast]; exact er) (of_decide_eq_false h3))
    have j1 : (j : Int) < r.length := of_decide_eq_true h3
    refine ⟨_, rfl, _, rfl, a, _, _, _, rfl, rfl, tb.at', atI_nat (tabV_get er), _, rfl, _, _, _, rfl, rfl, row_size (by rw [hw]; exact tb.wl), row_at (by omega), rfl, ?_⟩
    rw [atT_in er (by omega)] at q
    have key : decide (V.str ⟨#[sgn (r.getD j false)]⟩ = V.str (Str.ofString "-")) = (some (r.getD j false) == some false) := by
      rw [m_is]
      cases r.getD j false <;> decide
    rw [key]
    exact q
end
end Wa
namespace Wa
open PySem PySem.Spec PyProof.Rows L2
/-- the classes of answers, by their names -/
def klasses : List Str := ["Answer", "Beside", "Cross", "Line", "Mutual", "Neither", "Ranks", "Round", "Self", "Steps", "Stretches"]
structure Ks (K : PySem.W.Frag) (mg : Str → Option Value) (cl : Str → Addr) : Prop where
  m : ∀ n ∈ klasses, mg n = some (.ref (cl n))
  kl : ∀ n ∈ klasses, Kl K (cl n)
  one : ∀ n ∈ klasses, ∀ k ∈ klasses, PySem.W.kitOne K (.ref (cl n)) (.ref (cl k)) = some (n == k || k == "Answer")
/-- the fields, none of them a name of its class -/
def attrs : List (Str × Str) := [("Beside", "one"), ("Beside", "other"), ("Beside", "third"), ("Cross", "one"), ("Cross", "first"), ("Cross", "other"), ("Cross", "second"), ("Line", "order"), ("Mutual", "one"), ("Mutual", "other"), ("Neither", "one"), ("Neither", "other"), ("Ranks", "ranks"), ("Round", "one"), ("Round", "other"), ("Round", "third"), ("Self", "one"), ("Steps", "rows"), ("Steps", "columns"), ("Stretches", "begins"), ("Stretches", "ends"), ("Stretches", "unlike")]
structure Nas (K : PySem.W.Frag) (cl : Str → Addr) : Prop where
  na : ∀ p ∈ attrs, NoAttr K (cl p.1) p.2
/-- an instance of a class, its fields by name -/
structure Is (K : PySem.W.Frag) (cl : Str → Addr) (H : Hp) (D : Addr) (n : Str) (vs : List (Str × V)) : Prop where
  ex : ∃ dx fs, H D = some (.ins (cl n) dx fs) ∧ (∀ p ∈ vs, fs.lookup p.1 = some p.2) ∧ fs.lookup ("shows" : Str) = none ∧ fs.lookup ("shows_unlike" : Str) = none
theorem Is.same {K : PySem.W.Frag} {cl : Str → Addr} {H H' : Hp} {D : Addr} {n : Str} {vs : List (Str × V)} (h : Is K cl H D n vs) (s : Same H H') : Is K cl H' D n vs := by
  obtain ⟨dx, fs, e, r⟩ := h.ex
  exact ⟨dx, fs, s _ _ e, r⟩
theorem Is.ty {K : PySem.W.Frag} {mg : Str → Option Value} {cl : Str → Addr} {H : Hp} {D : Addr} {n : Str} {vs : List (Str × V)} (h : Is K cl H D n vs) (G : Ks K mg cl) (hn : n ∈ klasses) : TyOf K H (.ref D) (.ref (cl n)) := by
  obtain ⟨dx, fs, e, r⟩ := h.ex
  exact (G.kl n hn).ty e
/-- a field read -/
theorem Is.get {K : PySem.W.Frag} {mg : Str → Option Value} {cl : Str → Addr} {H : Hp} {D : Addr} {n f : Str} {v : V} {vs : List (Str × V)} {Q : V → Prop} (h : Is K cl H D n vs) (G : Ks K mg cl) (hn : n ∈ klasses) (ha : NoAttr K (cl n) f) (hv : (f, v) ∈ vs) (q : Q v) :
    ∃ a C dx fs v, V.ref D = .ref a ∧ H a = some (.ins C dx fs) ∧ Cls K C ∧ NoAttr K C f ∧ fs.lookup f = some v ∧ Q v := by
  obtain ⟨dx, fs, e, r, _⟩ := h.ex
  exact ⟨D, cl n, dx, fs, v, rfl, e, (G.kl n hn).cl, ha, r _ hv, q⟩
theorem Is.shows {K : PySem.W.Frag} {cl : Str → Addr} {H : Hp} {D : Addr} {n : Str} {vs : List (Str × V)} (h : Is K cl H D n vs) : ∃ dx fs, H D = some (.ins (cl n) dx fs) ∧ fs.lookup ("shows" : Str) = none := by
  obtain ⟨dx, fs, e, _, r⟩ := h.ex
  exact ⟨dx, fs, e, r.1⟩
theorem Is.unlike {K : PySem.W.Frag} {cl : Str → Addr} {H : Hp} {D : Addr} {n : Str} {vs : List (Str × V)} (h : Is K cl H D n vs) : ∃ dx fs, H D = some (.ins (cl n) dx fs) ∧ fs.lookup ("shows_unlike" : Str) = none := by
  obtain ⟨dx, fs, e, _, r⟩ := h.ex
  exact ⟨dx, fs, e, r.2⟩
def kindsB (nm : Str) (ks : List Str) : List V := ks.map fun k => V.bl (nm == k || k == "Answer")
theorem kindsB_flat (nm : Str) (ks : List Str) : (kindsB nm ks).all flatV = true := by
  unfold kindsB
  rw [List.all_map]
  simp [flatV]
/-- isinstance asked of it -/
theorem Is.isi {K : PySem.W.Frag} {mg : Str → Option Value} {cl : Str → Addr} {H : Hp} {D : Addr} {nm : Str} {vs : List (Str × V)} {Q : Bool → Prop} (h : Is K cl H D nm vs) (G : Ks K mg cl) (hn : nm ∈ klasses) (k : Str) (hk : k ∈ klasses) (q : Q (nm == k || k == "Answer")) :
    ∃ x C t b, [V.ref D, V.ref (cl k)] = [x, .ref C] ∧ TyOf K H x t ∧ PySem.W.kitOne K t (.ref C) = some b ∧ Q b := ⟨_, _, _, _, rfl, h.ty G hn, G.one nm hn k hk, q⟩
end Wa
namespace Wa
open PySem PySem.Spec PyProof.Rows L2
def spIsColC (K : PySem.W.Frag) : Sp := fun vs H Q _ => ∃ a t w i, vs = [.ref a, .int i] ∧ Tb K H a t w ∧ Q (.bl (isT (widT t) i)) H
theorem atT_some {t : Tab} {i j : Int} {b : Bool} (h : atT t i j = some b) : ∃ (m n : Nat) (r : List Bool), i = (m : Int) ∧ j = (n : Int) ∧ t[m]? = some r ∧ r[n]? = some b := by
  unfold atT at h
  split at h
  · rename_i z
    cases e : t[i.toNat]? with
    | none => rw [e] at h; cases h
    | some r =>
      rw [e] at h
      exact ⟨i.toNat, j.toNat, r, by omega, by omega, e, h⟩
  · cases h
def spHas (K : PySem.W.Frag) : Sp := fun vs H Q _ => ∃ a t w i j b, vs = [.ref a, .int i, .int j] ∧ Tb K H a t w ∧ atT t i j = some b ∧ Q (.bl b) H
section
variable {P : Program} {w : World} {K : PySem.W.Frag} {mg : Str → Option Value} {base : Heap}
theorem S_is_column_count : FnScope ["table", "value"] ["table", "value"] (defScope (top 9)) := ⟨rfl, rfl, rfl, by decide +kernel, rfl, by decide +kernel, by decide +kernel⟩
theorem ok_is_column_count {f : Addr} {fd : FuncData} (F : Fun K "is_column_count" "is_column_count" (top 9) f fd) (T : Nm mg) (c_is_number : DefC P w K mg base 1 "is_number" ["value"] spIsNum) (c_width : DefC P w K mg base 1 "width" ["table"] (spWidth K)) :
    FnOk P w K mg base CX0 2 f fd ["table", "value"] (spIsColC K) := by
  have S := S_is_column_count
  refine F.ok S (fun vs H Q E h => ?_) (fun cdv A outer s H vs Q E hr h => ?_)
  · obtain ⟨a, t, w, i, rfl, _⟩ := h
    rfl
  · obtain ⟨a, t, n, i, rfl, tb, q⟩ := h
    refine ⟨_, (pss_one (ps_ret (pe_and (pe_callC c_is_number hr (by rfl) (pa_cons (pv 1) pa_nil)) (pe_one (pe_chain op_le op_lt pe_int (pv 1) (pe_callC c_width hr (by rfl) (pa_cons (pv 0) pa_nil))))))), ?_⟩
    dsimp only [cxComp, cxOf, Cx.wish, tRet, tRetN, tSeq, tNext, tIfS, tDrop, tNot, tB, tTest, tAnd, tOr, tAndV, tOrV, tNotV, tIf, tCB, tCons, tNil, tVar, tC, tOp, tUn, tBM, tBM0, tCall, tLst, tTup, tAsg, tPar, tSl, tSl3, tNoPart, tPart, tChain, tComp, tCompS, iList, iRng1, iRng2, iEnum, iZip, rI, rI0, rU, rEq, rNe, rIxL, rIxT, rIxS, rIx, rSlL, rSlS, rCat, rEqL, rIsi, rAppend, rPop, rSetL, gSub, tDGet, tDIn, sDPut, tDisp, tPairs, iZipX, rIsiO, tFld, tMeth, tMake, sFld, tOrO, iEnumT, tMaxD, tSortK, tDNewK]
    unfold isT at q
    refine ⟨_, rfl, i, rfl, _, rfl, iteTb rfl ?_⟩
    refine ⟨_, rfl, _, _, rfl, rfl, _, rfl, ite_cases (fun h0 => ?_) fun h0 => ?_⟩
    · refine ⟨_, rfl, a, t, n, rfl, tb, _, _, rfl, rfl, ?_⟩
      rw [h0] at q
      exact q
    · rw [h0] at q
      exact q
theorem S_has : FnScope ["table", "row", "column"] ["table", "row", "column"] (defScope (top 10)) := ⟨rfl, rfl, rfl, by decide +kernel, rfl, by decide +kernel, by decide +kernel⟩
theorem ok_has {f : Addr} {fd : FuncData} (F : Fun K "has" "has" (top 10) f fd) (T : Nm mg) : FnOk P w K mg base CX0 1 f fd ["table", "row", "column"] (spHas K) := by
  have S := S_has
  refine F.ok S (fun vs H Q E h => ?_) (fun cdv A outer s H vs Q E hr h => ?_)
  · obtain ⟨a, t, w, i, j, b, rfl, _⟩ := h
    rfl
  · obtain ⟨a, t, n, i, j, b, rfl, tb, e, q⟩ := h
    obtain ⟨i, j, r, rfl, rfl, er, eb⟩ := atT_some e
    have hw := tb.row er
    have hj : j < r.length := (List.getElem?_eq_some_iff.mp eb).1
    have hb : r.getD j false = b := by rw [List.getD_eq_getElem?_getD, eb]; rfl
    refine ⟨_, (pss_one (ps_ret (pe_cmpR op_eq (pe_ix ix_str (pe_ix ix_list (pv 0) (pv 1) (fun _ _ => rfl)) (pv 2) (fun _ _ => rfl)) pe_str (nomark _)))), ?_⟩
    dsimp only [cxComp, cxOf, Cx.wish, tRet, tRetN, tSeq, tNext, tIfS, tDrop, tNot, tB, tTest, tAnd, tOr, tAndV, tOrV, tNotV, tIf, tCB, tCons, tNil, tVar, tC, tOp, tUn, tBM, tBM0, tCall, tLst, tTup, tAsg, tPar, tSl, tSl3, tNoPart, tPart, tChain, tComp, tCompS, iList, iRng1, iRng2, iEnum, iZip, rI, rI0, rU, rEq, rNe, rIxL, rIxT, rIxS, rIx, rSlL, rSlS, rCat, rEqL, rIsi, rAppend, rPop, rSetL, gSub, tDGet, tDIn, sDPut, tDisp, tPairs, iZipX, rIsiO, tFld, tMeth, tMake, sFld, tOrO, iEnumT, tMaxD, tSortK, tDNewK]
    refine ⟨_, rfl, _, rfl, a, _, _, _, rfl, rfl, tb.at', atI_nat (tabV_get er), _, rfl, _, _, _, rfl, rfl, row_size (by rw [hw]; exact tb.wl), row_at hj, rfl, ?_⟩
    have key : decide (V.str ⟨#[sgn (r.getD j false)]⟩ = V.str (Str.ofString "x")) = b := by
      rw [hb, x_is]
      cases b <;> decide
    rw [key]
    exact q
end
end Wa
namespace Wa
def cnt (r : List Bool) : Nat := r.count true
/-- the first place that r has and s has not -/
def alone (r s : List Bool) : Option Nat := (List.range r.length).find? fun p => r.getD p false && !s.getD p false
def Sub (r s : List Bool) : Prop := ∀ p : Nat, r.getD p false = true → s.getD p false = true
theorem Sub.tail {b c : Bool} {r s : List Bool} (h : Sub (b :: r) (c :: s)) : Sub r s := fun p hp => by
  have := h (p + 1) (by simpa using hp)
  simpa using this
theorem Sub.head {c : Bool} {r s : List Bool} (h : Sub (true :: r) (c :: s)) : c = true := by
  have := h 0 (by simp)
  simpa using this
theorem cnt_le : ∀ {r s : List Bool}, r.length = s.length → Sub r s → cnt r ≤ cnt s
  | [], [], _, _ => Nat.le_refl _
  | b :: r, c :: s, hl, h => by
    have ih := cnt_le (r := r) (s := s) (by simpa using hl) h.tail
    unfold cnt at ih ⊢
    rw [List.count_cons, List.count_cons]
    cases b with
    | false => split <;> simp at * <;> omega
    | true =>
      have := h.head
      subst this
      simp
      omega
  | [], _ :: _, hl, _ => by simp at hl
  | _ :: _, [], hl, _ => by simp at hl
theorem sub_eq : ∀ {r s : List Bool}, r.length = s.length → Sub r s → cnt s ≤ cnt r → r = s
  | [], [], _, _, _ => rfl
  | b :: r, c :: s, hl, h, hc => by
    have hl' : r.length = s.length := by simpa using hl
    have h1 := cnt_le hl' h.tail
    unfold cnt at h1 hc
    rw [List.count_cons, List.count_cons] at hc
    have e : b = c := by
      cases b with
      | true => exact h.head.symm
      | false =>
        cases c with
        | false => rfl
        | true => simp at hc; omega
    subst e
    rw [sub_eq hl' h.tail (by unfold cnt; omega)]
  | [], _ :: _, hl, _, _ => by simp at hl
  | _ :: _, [], hl, _, _ => by simp at hl
theorem alone_none {r s : List Bool} (h : ∀ p, p < r.length → ¬ (r.getD p false = true ∧ s.getD p false = false)) : alone r s = none := by
  unfold alone
  rw [List.find?_eq_none]
  intro p hp
  have := h p (List.mem_range.mp hp)
  cases h1 : r.getD p false <;> cases h2 : s.getD p false <;> simp_all
theorem alone_sub {r s : List Bool} (h : alone r s = none) : Sub r s := fun p hp => by
  unfold alone at h
  rw [List.find?_eq_none] at h
  have hl : p < r.length := by
    apply Classical.byContradiction
    intro z
    rw [List.getD_eq_getElem?_getD, List.getElem?_eq_none (by omega)] at hp
    simp at hp
  have := h p (List.mem_range.mpr hl)
  rw [hp] at this
  cases h2 : s.getD p false with
  | true => rfl
  | false => rw [h2] at this; simp at this
theorem alone_some {r s : List Bool} {p : Nat} (h : alone r s = some p) : p < r.length ∧ r.getD p false = true ∧ s.getD p false = false := by
  unfold alone at h
  have h1 := List.find?_some h
  have h2 := List.mem_of_find?_eq_some h
  rw [Bool.and_eq_true] at h1
  exact ⟨List.mem_range.mp h2, h1.1, by simpa using h1.2⟩
theorem alone_first {r s : List Bool} {p : Nat} (hp : p < r.length) (h1 : r.getD p false = true) (h2 : s.getD p false = false) (hb : ∀ q, q < p → ¬ (r.getD q false = true ∧ s.getD q false = false)) : alone r s = some p := by
  cases e : alone r s with
  | none =>
    have := alone_sub e p h1
    rw [h2] at this
    cases this
  | some q =>
    have hq := alone_some e
    rcases Nat.lt_trichotomy q p with z | z | z
    · exact absurd ⟨hq.2.1, hq.2.2⟩ (hb q z)
    · rw [z]
    · unfold alone at e
      rw [List.find?_range_eq_some] at e
      have := e.2.2 p z
      rw [h1, h2] at this
      simp at this
/-- r has no fewer than s, and is another: it has one alone -/
theorem alone_ex {r s : List Bool} (hl : r.length = s.length) (hc : cnt s ≤ cnt r) (hn : r ≠ s) : ∃ p, alone r s = some p := by
  cases e : alone r s with
  | some p => exact ⟨p, rfl⟩
  | none => exact absurd (sub_eq hl (alone_sub e) hc) hn
end Wa
namespace Wa
theorem cnt_pos {r : List Bool} {j : Nat} (h : r.getD j false = true) : 0 < cnt r := by
  unfold cnt
  rw [List.count_pos_iff]
  have hl : j < r.length := by
    apply Classical.byContradiction
    intro z
    rw [List.getD_eq_getElem?_getD, List.getElem?_eq_none (by omega)] at h
    cases h
  rw [List.getD_eq_getElem?_getD, List.getElem?_eq_getElem hl] at h
  have h' : r[j] = true := h
  rw [← h']
  exact List.getElem_mem hl
theorem cnt_less {r s : List Bool} (hl : r.length = s.length) (h : Sub r s ∨ Sub s r) {j : Nat} (h1 : s.getD j false = true) (h2 : r.getD j false = false) : cnt r < cnt s := by
  rcases h with h | h
  · apply Classical.byContradiction
    intro z
    have e := sub_eq hl h (by omega)
    rw [e, h1] at h2
    cases h2
  · have := h j h1
    rw [h2] at this
    cases this
theorem Sub.refl (r : List Bool) : Sub r r := fun _ h => h
theorem Sub.trans {r s t : List Bool} (h1 : Sub r s) (h2 : Sub s t) : Sub r t := fun p hp => h2 p (h1 p hp)
/-- any two rows: one within the other -/
def NoCross (t : List (List Bool)) : Prop := ∀ i k, i < t.length → k < t.length → Sub (t.getD i []) (t.getD k []) ∨ Sub (t.getD k []) (t.getD i [])
theorem chain_le {g : Nat → List Bool} {n : Nat} (h : ∀ p, p + 1 < n → Sub (g p) (g (p + 1))) : ∀ d p, p + d < n → Sub (g p) (g (p + d))
  | 0, p, _ => Sub.refl _
  | d + 1, p, hp => (chain_le h d p (by omega)).trans (h (p + d) (by omega))
theorem chain_any {t : List (List Bool)} {ms : List Nat} (hm : ∀ i, i < t.length → i ∈ ms) (h : ∀ p, p + 1 < ms.length → Sub (t.getD (ms.getD p 0) []) (t.getD (ms.getD (p + 1) 0) [])) : NoCross t := by
  intro i k hi hk
  obtain ⟨p, hp, ep⟩ := List.getElem_of_mem (hm i hi)
  obtain ⟨q, hq, eq⟩ := List.getElem_of_mem (hm k hk)
  have e1 : ms.getD p 0 = i := by simp [hp, ep]
  have e2 : ms.getD q 0 = k := by simp [hq, eq]
  rcases Nat.le_total p q with z | z
  · have := chain_le (g := fun p => t.getD (ms.getD p 0) []) h (q - p) p (by omega)
    simp only [show p + (q - p) = q by omega, e1, e2] at this
    exact .inl this
  · have := chain_le (g := fun p => t.getD (ms.getD p 0) []) h (p - q) q (by omega)
    simp only [show q + (p - q) = p by omega, e1, e2] at this
    exact .inr this
/-- the greatest of the numbers where r has nothing, or 0 -/
def GL (r : List Bool) (ns : List Int) (m : Int) : Prop :=
  (∀ i, i < r.length → r.getD i false = false → ns.getD i 0 ≤ m) ∧ ((m = 0 ∧ ∀ i, i < r.length → r.getD i false = true) ∨ ∃ i, i < r.length ∧ r.getD i false = false ∧ m = ns.getD i 0)
theorem steps_at {n : Nat} {f : Nat → Nat → Bool} {c g : Nat → Int} {i j : Nat} (hi : i < n) (h0 : f i j = true → 0 < c i) (hB : ∀ k, k < n → f i j = true → f k j = false → c k < c i)
    (hg : (∀ k, k < n → f k j = false → c k ≤ g j) ∧ ((g j = 0 ∧ ∀ k, k < n → f k j = true) ∨ ∃ k, k < n ∧ f k j = false ∧ g j = c k)) : f i j = decide (g j < c i) := by
  cases h : f i j with
  | true =>
    symm
    rw [decide_eq_true_iff]
    rcases hg.2 with ⟨e, _⟩ | ⟨k, hk, e1, e2⟩
    · rw [e]; exact h0 h
    · rw [e2]; exact hB k hk h e1
  | false =>
    symm
    rw [decide_eq_false_iff_not]
    have := hg.1 i hi h
    omega
end Wa
namespace Wa
open PySem PySem.Spec PyProof.Rows L2
theorem isT_iff {n : Nat} {u : Int} : isT n u = true ↔ 0 ≤ u ∧ u < (n : Int) := by
  unfold isT
  simp
theorem atT_of {t : Tab} {w : Nat} (hw : Wid t w) {i j : Int} (hi : isT t.length i = true) (hj : isT w j = true) : ∃ b, atT t i j = some b := by
  rw [isT_iff] at hi hj
  have h1 : i.toNat < t.length := by omega
  obtain ⟨r, er⟩ : ∃ r, t[i.toNat]? = some r := ⟨_, List.getElem?_eq_getElem h1⟩
  have hr := hw r (List.mem_of_getElem? er)
  have h2 : j.toNat < r.length := by omega
  unfold atT
  rw [if_pos ⟨hi.1, hj.1⟩, er]
  exact ⟨_, List.getElem?_eq_getElem h2⟩
theorem isT_row {t : Tab} {i j : Int} {b : Bool} (h : atT t i j = some b) : isT t.length i = true := by
  obtain ⟨m, n, r, rfl, rfl, er, _⟩ := atT_some h
  rw [isT_iff]
  have := (List.getElem?_eq_some_iff.mp er).1
  omega
theorem isT_col {t : Tab} {w : Nat} (hw : Wid t w) {i j : Int} {b : Bool} (h : atT t i j = some b) : isT w j = true := by
  obtain ⟨m, n, r, rfl, rfl, er, eb⟩ := atT_some h
  rw [isT_iff]
  have h1 := (List.getElem?_eq_some_iff.mp eb).1
  have h2 := hw r (List.mem_of_getElem? er)
  omega
theorem rowL {r : List Bool} {n : Int} {ms : List Int} (hl : r.length = ms.length) : (r == ms.map fun m => decide (n < m)) = ((List.range ms.length).all fun j => r.getD j false == decide (n < ms.getD j 0)) := by
  rw [Bool.eq_iff_iff, beq_iff_eq, List.all_eq_true]
  constructor
  · rintro rfl j hj
    have hj' := List.mem_range.mp hj
    simp [hj']
  · intro h
    apply List.ext_getElem
    · rw [List.length_map]; exact hl
    · intro j h1 h2
      have := h j (List.mem_range.mpr (by omega))
      rw [beq_iff_eq] at this
      have h3 : j < ms.length := by omega
      simp [h1, h3] at this
      rw [List.getElem_map]
      exact this
/-- an answer of numbers is made -/
def spMkI (K : PySem.W.Frag) (cl : Str → Addr) (nm : Str) (fs : List Str) : Sp := fun vs H Q _ => ∃ x dx, ∃ is : List Int, vs = .ref x :: is.map V.int ∧ is.length = fs.length ∧ H x = some (.ins (cl nm) dx []) ∧
  ∀ H', (∀ b o, H b = some o → b ≠ x → H' b = some o) → Is K cl H' x nm (fs.zip (is.map V.int)) → Q .non H'
theorem putF_len (f : Str) (v : V) : ∀ fs : List (Str × V), (putF f v fs).length ≤ fs.length + 1
  | [] => Nat.le_refl _
  | (g, u) :: r => by
    show (if g = f then (g, v) :: r else (g, u) :: putF f v r).length ≤ _
    split
    · simp
    · have := putF_len f v r
      simp only [List.length_cons]
      omega
/-- what is made new, after its making -/
theorem made_same {H H' : Hp} {x dx : Addr} {o u : HO} (hx : H x = none) (hd : H dx = none) (k : ∀ b o', (upd (upd H dx o) x u) b = some o' → b ≠ x → H' b = some o') : Same H H' := fun b o' e => by
  have n1 : b ≠ x := ne_of_none e hx
  have n2 : b ≠ dx := ne_of_none e hd
  exact k b o' (by rw [upd_ne n1, upd_ne n2]; exact e) n1
end Wa
namespace Wa
open PySem PySem.Spec PyProof.Rows L2
/-- each row has just the columns whose number is greater than its own -/
def lessT (t : Tab) (ns ms : List Int) : Bool := (List.range t.length).all fun i => t.getD i [] == ms.map fun m => decide (ns.getD i 0 < m)
def spAreNum (K : PySem.W.Frag) : Sp := fun vs H Q _ => ∃ A, ∃ ns : List Int, ∃ m, vs = [.ref A, .int m] ∧ SqL K H A (ns.map V.int) ∧ m ≤ 100 ∧ ∀ H', Same H H' → Q (.bl (decide ((ns.length : Int) = m))) H'
def spLess (K : PySem.W.Frag) : Sp := fun vs H Q _ => ∃ n A, ∃ ms : List Int, vs = [.int n, .ref A] ∧ SqL K H A (ms.map V.int) ∧ ms.length ≤ 100 ∧ ∀ H', Same H H' → Q (.str (rowS (ms.map fun m => decide (n < m)))) H'
def spHasLess (K : PySem.W.Frag) : Sp := fun vs H Q _ => ∃ a t w A, ∃ ns : List Int, ∃ B, ∃ ms : List Int, vs = [.ref a, .ref A, .ref B] ∧ Tb K H a t w ∧ SqL K H A (ns.map V.int) ∧ SqL K H B (ms.map V.int) ∧ ns.length = t.length ∧ ms.length ≤ 100 ∧ ∀ H', Same H H' → Q (.bl (lessT t ns ms)) H'
theorem n100 {n : Nat} (h : n ≤ 100) : n ≤ sizeLine := Nat.le_trans h (by decide)
section
variable {P : Program} {w : World} {K : PySem.W.Frag} {mg : Str → Option Value} {base : Heap}
theorem S_are_numbers : FnScope ["values", "length"] ["values", "length"] (defScope (top 15)) := ⟨rfl, rfl, rfl, by decide +kernel, rfl, by decide +kernel, by decide +kernel⟩
theorem ok_are_numbers {f : Addr} {fd : FuncData} (F : Fun K "are_numbers" "are_numbers" (top 15) f fd) (T : Nm mg) (c_is_number : DefC P w K mg base 1 "is_number" ["value"] spIsNum) :
    FnOk P w K mg base CX0 2 f fd ["values", "length"] (spAreNum K) := by
  have S := S_are_numbers
  refine F.ok S (fun vs H Q E h => ?_) (fun cdv A outer s H vs Q E hr h => ?_)
  · obtain ⟨A, ns, m, rfl, _⟩ := h
    rfl
  · obtain ⟨A, ns, m, rfl, hA, hm, q⟩ := h
    refine ⟨_, (pss_one (ps_ret (pe_and (pe_cmpR op_eq (pe_callB call_len_seq (by rfl) T.n_len bt_len (pa_cons (pv 0) pa_nil)) (pv 1) (nomark _)) (pe_one (pe_callB (call_all rfl) (by rfl) T.n_all bt_all (pa_cons (pe_comp (N := ["value"]) (lift := [none]) (.of (by kernel_rfl)) (pi_list (pv 0)) (fun b => (pg_name (i := 0) (show (["value"] : List Str).Nodup from by decide +kernel) rfl (by first | exact Or.inl rfl | exact Or.inr rfl))) (fun b => pifs_nil) (fun b => (pe_callC c_is_number hr (by rfl) (pa_cons (pv 0) pa_nil)))) pa_nil)))))), ?_⟩
    dsimp only [cxComp, cxOf, Cx.wish, tRet, tRetN, tSeq, tNext, tIfS, tDrop, tNot, tB, tTest, tAnd, tOr, tAndV, tOrV, tNotV, tIf, tCB, tCons, tNil, tVar, tC, tOp, tUn, tBM, tBM0, tCall, tLst, tTup, tAsg, tPar, tSl, tSl3, tNoPart, tPart, tChain, tComp, tCompS, iList, iRng1, iRng2, iEnum, iZip, rI, rI0, rU, rEq, rNe, rIxL, rIxT, rIxS, rIx, rSlL, rSlS, rCat, rEqL, rIsi, rAppend, rPop, rSetL, gSub, tDGet, tDIn, sDPut, tDisp, tPairs, iZipX, rIsiO, tFld, tMeth, tMake, sFld, tOrO, iEnumT, tMaxD, tSortK, tDNewK]
    refine ⟨_, rfl, A, _, rfl, .inl hA, _, rfl, rfl, _, rfl, ?_⟩
    rw [List.length_map]
    by_cases e : (ns.length : Int) = m
    · have hl : ns.length ≤ 100 := by omega
      refine iteTb (by rw [e]; simp) ?_
      refine ⟨_, rfl, A, rfl, ⟨_, hA⟩, comp_list (intM fun _ => .bl true) hA (by rw [List.length_map]; exact n100 hl) (fun x hx => ?_) fun D H1 s1 n1 e1 => ?_⟩
      · obtain ⟨z, _, rfl⟩ := List.mem_map.mp hx
        exact .map fun H1 k s1 hk => ⟨_, rfl, z, rfl, hk _ (Same.refl _)⟩
      · rw [intM_map] at e1
        have eb : ns.map (fun _ => V.bl true) = (ns.map fun _ => true).map V.bl := by rw [List.map_map]; rfl
        rw [eb] at e1
        refine ⟨D, _, rfl, .of e1, ?_⟩
        have h2 := q H1 s1
        rw [decide_eq_true e] at h2
        have e2 : (ns.map fun _ => true).all id = true := by simp
        rw [e2]
        exact h2
    · refine iteFb (by simpa using e) ?_
      have h2 := q H (Same.refl _)
      rw [decide_eq_false e] at h2
      exact h2
theorem S_signs_where_less : FnScope ["number", "others"] ["number", "others"] (defScope (top 17)) := ⟨rfl, rfl, rfl, by decide +kernel, rfl, by decide +kernel, by decide +kernel⟩
theorem ok_signs_where_less {f : Addr} {fd : FuncData} (F : Fun K "signs_where_less" "signs_where_less" (top 17) f fd) (T : Nm mg) : FnOk P w K mg base CX0 1 f fd ["number", "others"] (spLess K) := by
  have S := S_signs_where_less
  refine F.ok S (fun vs H Q E h => ?_) (fun cdv A outer s H vs Q E hr h => ?_)
  · obtain ⟨n, A, ms, rfl, _⟩ := h
    rfl
  · obtain ⟨z, A, ms, rfl, hA, hl, q⟩ := h
    refine ⟨_, (pss_one (ps_ret (pe_bm PySem.F.plainAttrs_str PySem.F.slot_str_join PySem.F.type_str_join mt_join pe_str (pa_cons (pe_comp (N := ["other", "number"]) (lift := [none, some 0]) (.of (by kernel_rfl)) (pi_list (pv 1)) (fun b => (pg_name (i := 0) (show (["other", "number"] : List Str).Nodup from by decide +kernel) rfl (by first | exact Or.inl rfl | exact Or.inr rfl))) (fun b => pifs_nil) (fun b => (pe_ifExp (pt_cmpR op_lt (pv 1) (pv 0) (nomark _)) pe_str pe_str))) pa_nil)))), ?_⟩
    dsimp only [cxComp, cxOf, Cx.wish, tRet, tRetN, tSeq, tNext, tIfS, tDrop, tNot, tB, tTest, tAnd, tOr, tAndV, tOrV, tNotV, tIf, tCB, tCons, tNil, tVar, tC, tOp, tUn, tBM, tBM0, tCall, tLst, tTup, tAsg, tPar, tSl, tSl3, tNoPart, tPart, tChain, tComp, tCompS, iList, iRng1, iRng2, iEnum, iZip, rI, rI0, rU, rEq, rNe, rIxL, rIxT, rIxS, rIx, rSlL, rSlS, rCat, rEqL, rIsi, rAppend, rPop, rSetL, gSub, tDGet, tDIn, sDPut, tDisp, tPairs, iZipX, rIsiO, tFld, tMeth, tMake, sFld, tOrO, iEnumT, tMaxD, tSortK, tDNewK]
    refine ⟨rfl, _, rfl, A, rfl, ⟨_, hA⟩, comp_list (intM fun b => .str (oneS (decide (z < b)))) hA (by rw [List.length_map]; exact n100 hl) (fun x hx => ?_) fun D2 H4 s4 n4 e4 => ?_⟩
    · obtain ⟨b, _, rfl⟩ := List.mem_map.mp hx
      refine .map fun H4 k2 s4 hk2 => ?_
      refine ⟨_, rfl, _, rfl, _, _, rfl, rfl, _, rfl, ?_⟩
      have h2 : k2 (V.str (oneS (decide (z < b)))) H4 := hk2 _ (Same.refl _)
      refine ite_cases (fun h => ?_) fun h => ?_
      · rw [h] at h2
        rw [x_is]
        exact h2
      · rw [h] at h2
        rw [m_is]
        exact h2
    · rw [intM_map, ones_map] at e4
      refine ⟨_, D2, _, rfl, rfl, .of e4, ?_, ?_⟩
      · rw [ones_sum, List.length_map, List.length_map, e_is]
        show _ + _ * 0 ≤ _
        have := n100 hl
        omega
      · rw [join_ones]
        exact q H4 s4
theorem S_has_where_less : FnScope ["table", "rows", "columns"] ["table", "rows", "columns"] (defScope (top 18)) := ⟨rfl, rfl, rfl, by decide +kernel, rfl, by decide +kernel, by decide +kernel⟩
theorem ok_has_where_less {f : Addr} {fd : FuncData} (F : Fun K "has_where_less" "has_where_less" (top 18) f fd) (T : Nm mg) (c_signs_where_less : DefC P w K mg base 1 "signs_where_less" ["number", "others"] (spLess K)) :
    FnOk P w K mg base CX0 2 f fd ["table", "rows", "columns"] (spHasLess K) := by
  have S := S_has_where_less
  refine F.ok S (fun vs H Q E h => ?_) (fun cdv A outer s H vs Q E hr h => ?_)
  · obtain ⟨a, t, w, A, ns, B, ms, rfl, _⟩ := h
    rfl
  · obtain ⟨a, t, n, A, ns, B, ms, rfl, tb, hA, hB, e1, hl, q⟩ := h
    refine ⟨_, (pss_one (ps_ret (pe_callB (call_all rfl) (by rfl) T.n_all bt_all (pa_cons (pe_comp (N := ["row", "number", "columns"]) (lift := [none, none, some 2]) (.of (by kernel_rfl)) (pi_zip (by rfl) T.n_zip (pa_cons (pv 0) (pa_cons (pv 1) pa_nil))) (fun b => (pg_tup (n := 2) rfl (pgs_cons (pg_name (i := 0) (show (["row", "number", "columns"] : List Str).Nodup from by decide +kernel) rfl (by first | exact Or.inl rfl | exact Or.inr rfl)) (pgs_cons (pg_name (i := 1) (show (["row", "number", "columns"] : List Str).Nodup from by decide +kernel) rfl (by first | exact Or.inl rfl | exact Or.inr rfl)) pgs_nil)))) (fun b => pifs_nil) (fun b => (pe_cmpR op_eq (pv 0) (pe_callC c_signs_where_less hr (by rfl) (pa_cons (pv 1) (pa_cons (pv 2) pa_nil))) (nomark _)))) pa_nil)))), ?_⟩
    dsimp only [cxComp, cxOf, Cx.wish, tRet, tRetN, tSeq, tNext, tIfS, tDrop, tNot, tB, tTest, tAnd, tOr, tAndV, tOrV, tNotV, tIf, tCB, tCons, tNil, tVar, tC, tOp, tUn, tBM, tBM0, tCall, tLst, tTup, tAsg, tPar, tSl, tSl3, tNoPart, tPart, tChain, tComp, tCompS, iList, iRng1, iRng2, iEnum, iZip, rI, rI0, rU, rEq, rNe, rIxL, rIxT, rIxS, rIx, rSlL, rSlS, rCat, rEqL, rIsi, rAppend, rPop, rSetL, gSub, tDGet, tDIn, sDPut, tDisp, tPairs, iZipX, rIsiO, tFld, tMeth, tMake, sFld, tOrO, iEnumT, tMaxD, tSortK, tDNewK]
    refine ⟨_, rfl, _, rfl, a, A, rfl, ⟨_, tb.at'⟩, ⟨_, hA⟩, comp_zip (fun i => some (.bl (t.getD i [] == ms.map fun m => decide (ns.getD i 0 < m)))) tb.at' hA (by rw [tabV_len, List.length_map, e1]) tb.size (fun i x y hx hy => ?_) fun D H1 s1 n1 e2 => ?_⟩
    · obtain ⟨m, em, rfl⟩ := int_at hy
      have hi : i < t.length := by
        have := (List.getElem?_eq_some_iff.mp hx).1
        rw [tabV_len] at this
        exact this
      obtain ⟨r, er⟩ : ∃ r, t[i]? = some r := ⟨_, List.getElem?_eq_getElem hi⟩
      have ex : x = .str (rowS r) := by
        rw [tabV_get er] at hx
        exact (Option.some.inj hx).symm
      subst ex
      have hd : t.getD i [] = r := by simp [er]
      have hm : ns.getD i 0 = m := by simp [em]
      rw [hd, hm]
      refine .map fun H2 k s2 hk => ?_
      refine ⟨_, rfl, _, rfl, _, rfl, m, B, ms, rfl, s2.seq hB, hl, fun H3 s3 => ⟨rfl, ?_⟩⟩
      have key : decide (V.str (rowS r) = V.str (rowS (ms.map fun x => decide (m < x)))) = (r == ms.map fun x => decide (m < x)) := by
        by_cases z : r = ms.map fun x => decide (m < x)
        · rw [← z]; simp
        · rw [decide_eq_false (fun e => z (rowS_inj (by injection e)))]
          exact (beq_eq_false_iff_ne.mpr z).symm
      rw [key]
      exact hk _ s3
    · rw [fm_some, tabV_len] at e2
      have eb : (List.range t.length).map (fun i => V.bl (t.getD i [] == ms.map fun m => decide (ns.getD i 0 < m))) = ((List.range t.length).map fun i => t.getD i [] == ms.map fun m => decide (ns.getD i 0 < m)).map V.bl := by rw [List.map_map]; rfl
      rw [eb] at e2
      refine ⟨D, _, rfl, .of e2, ?_⟩
      rw [show ((List.range t.length).map fun i => t.getD i [] == ms.map fun m => decide (ns.getD i 0 < m)).all id = lessT t ns ms from by rw [List.all_map]; rfl]
      exact q H1 s1
end
end Wa
namespace Wa
open PySem PySem.Spec PyProof.Rows L2
/-- what a comprehension over texts gathers -/
def txtM (g : Str → V) : V → Option V
  | .str x => some (g x)
  | _ => none
theorem txtM_map (g : Str → V) (t : Tab) : (tabV t).filterMap (txtM g) = t.map fun r => g (rowS r) := by
  unfold tabV
  rw [List.filterMap_map, ← fm_some]
  rfl
theorem same_none {H H' : Hp} {D : Addr} (s : Same H H') (h : H' D = none) : H D = none := by
  cases e : H D with
  | none => rfl
  | some o => rw [s _ _ e] at h; cases h
def cntI (r : List Bool) : Int := (cnt r : Nat)
theorem count_sgn (r : List Bool) : (r.map sgn).count 120 = cnt r := by
  unfold cnt
  induction r with
  | nil => rfl
  | cons b r ih =>
    rw [List.map_cons, List.count_cons, List.count_cons, ih]
    cases b <;> rfl
theorem occ_cnt (r : List Bool) : (Builtin.Str.occurrences (rowS r) (Str.ofString "x") 0 (rowS r).length ((rowS r).length + 1)).length = cnt r := by
  rw [x_is, occ_one, rowS_list, count_sgn]
/-- the sign at a row and a column -/
def at2 (t : Tab) (i j : Nat) : Bool := (t.getD i []).getD j false
theorem at2_row {t : Tab} {i : Nat} {r : List Bool} (e : t[i]? = some r) (j : Nat) : at2 t i j = r.getD j false := by
  unfold at2
  rw [show t.getD i [] = r from by simp [e]]
theorem row_of {t : Tab} {i : Nat} (h : i < t.length) : ∃ r, t[i]? = some r := ⟨_, List.getElem?_eq_getElem h⟩
theorem sgn_at {r : List Bool} {i c : Nat} (h : (rowS r).cps.toList[i]? = some c) : i < r.length ∧ c = sgn (r.getD i false) := by
  rw [rowS_list, List.getElem?_map] at h
  cases e : r[i]? with
  | none => rw [e] at h; cases h
  | some b =>
    rw [e] at h
    refine ⟨(List.getElem?_eq_some_iff.mp e).1, ?_⟩
    rw [List.getD_eq_getElem?_getD, e]
    exact (Option.some.inj h).symm
theorem isX (b : Bool) : decide (V.str ⟨#[sgn b]⟩ = V.str (Str.ofString "x")) = b := by
  rw [x_is]
  cases b <;> decide
theorem isM (b : Bool) : decide (V.str ⟨#[sgn b]⟩ = V.str (Str.ofString "-")) = !b := by
  rw [m_is]
  cases b <;> decide
def spCounts (K : PySem.W.Frag) : Sp := fun vs H Q _ => ∃ a t w, vs = [.ref a] ∧ Tb K H a t w ∧ ∀ D H', Same H H' → H D = none → H' D = some (.lst ((t.map cntI).map V.int)) → Q (.ref D) H'
def aloneV (r s : List Bool) : V := match alone r s with
  | some p => .int p
  | none => .non
def spAlone : Sp := fun vs H Q _ => ∃ r s, vs = [.str (rowS r), .str (rowS s)] ∧ r.length = s.length ∧ s.length ≤ 100 ∧ ∀ H', Same H H' → Q (aloneV r s) H'
section
variable {P : Program} {w : World} {K : PySem.W.Frag} {mg : Str → Option Value} {base : Heap}
theorem S_signs_count : FnScope ["texts"] ["texts"] (defScope (top 34)) := ⟨rfl, rfl, rfl, by decide +kernel, rfl, by decide +kernel, by decide +kernel⟩
theorem ok_signs_count {f : Addr} {fd : FuncData} (F : Fun K "signs_count" "signs_count" (top 34) f fd) (T : Nm mg) : FnOk P w K mg base CX0 1 f fd ["texts"] (spCounts K) := by
  have S := S_signs_count
  refine F.ok S (fun vs H Q E h => ?_) (fun cdv A outer s H vs Q E hr h => ?_)
  · obtain ⟨a, t, w, rfl, _⟩ := h
    rfl
  · obtain ⟨a, t, n, rfl, tb, q⟩ := h
    refine ⟨_, (pss_one (ps_ret (pe_comp (N := ["text"]) (lift := [none]) (.of (by kernel_rfl)) (pi_list (pv 0)) (fun b => (pg_name (i := 0) (show (["text"] : List Str).Nodup from by decide +kernel) rfl (by first | exact Or.inl rfl | exact Or.inr rfl))) (fun b => pifs_nil) (fun b => (pe_bm PySem.F.plainAttrs_str PySem.F.slot_str_count PySem.F.type_str_count mt_count (pv 0) (pa_cons pe_str pa_nil)))))), ?_⟩
    dsimp only [cxComp, cxOf, Cx.wish, tRet, tRetN, tSeq, tNext, tIfS, tDrop, tNot, tB, tTest, tAnd, tOr, tAndV, tOrV, tNotV, tIf, tCB, tCons, tNil, tVar, tC, tOp, tUn, tBM, tBM0, tCall, tLst, tTup, tAsg, tPar, tSl, tSl3, tNoPart, tPart, tChain, tComp, tCompS, iList, iRng1, iRng2, iEnum, iZip, rI, rI0, rU, rEq, rNe, rIxL, rIxT, rIxS, rIx, rSlL, rSlS, rCat, rEqL, rIsi, rAppend, rPop, rSetL, gSub, tDGet, tDIn, sDPut, tDisp, tPairs, iZipX, rIsiO, tFld, tMeth, tMake, sFld, tOrO, iEnumT, tMaxD, tSortK, tDNewK]
    refine ⟨_, rfl, a, rfl, ⟨_, tb.at'⟩, comp_list (txtM fun z => .int ((Builtin.Str.occurrences z (Str.ofString "x") 0 z.length (z.length + 1)).length : Nat)) tb.at' tb.size (fun x hx => ?_) fun D H1 s1 n1 e1 => ?_⟩
    · obtain ⟨r, _, rfl⟩ := List.mem_map.mp hx
      exact .map fun H1 k s1 hk => ⟨_, rfl, rfl, _, _, rfl, rfl, hk _ (Same.refl _)⟩
    · rw [txtM_map] at e1
      have e2 : (t.map fun r => V.int ((Builtin.Str.occurrences (rowS r) (Str.ofString "x") 0 (rowS r).length ((rowS r).length + 1)).length : Nat)) = (t.map cntI).map V.int := by
        rw [List.map_map]
        apply List.map_congr_left
        intro r _
        rw [occ_cnt]
        rfl
      rw [e2] at e1
      exact q D H1 s1 n1 e1
theorem S_place_had_alone : FnScope ["signs", "others", "place", "sign"] ["signs", "others"] (defScope (top 35)) := ⟨rfl, rfl, rfl, by decide +kernel, rfl, by decide +kernel, by decide +kernel⟩
theorem ok_place_had_alone {f : Addr} {fd : FuncData} (F : Fun K "place_had_alone" "place_had_alone" (top 35) f fd) (T : Nm mg) : FnOk P w K mg base CX0 1 f fd ["signs", "others"] spAlone := by
  have S := S_place_had_alone
  refine F.ok S (fun vs H Q E h => ?_) (fun cdv A outer s H vs Q E hr h => ?_)
  · obtain ⟨r, u, rfl, _⟩ := h
    rfl
  · obtain ⟨r, u, rfl, hl, hz, q⟩ := h
    refine ⟨_, (pss_cons (ps_for PassesOwn.never rfl (pi_enumT (by rfl) T.n_enumerate (pa_cons (pv 0) pa_nil)) (pg_tup (n := 2) rfl (pgs_cons (pg_name (i := 2) S.nd rfl (by first | exact Or.inl rfl | exact Or.inr rfl)) (pgs_cons (pg_name (i := 3) S.nd rfl (by first | exact Or.inl rfl | exact Or.inr rfl)) pgs_nil))) (pss_one (ps_if (PW.pt (pw_and (pt_cmpR op_eq (pv 3) pe_str (nomark _)) (pw_and1 (pt_cmpR op_eq (pe_ix ix_str (pv 1) (pv 2) (fun _ _ => rfl)) pe_str (nomark _))))) (pss_one (ps_ret (pv 2))) pss_nil)))
      (pss_one (ps_ret pe_non))), ?_⟩
    refine seq_cut (fun σ' H' => Same H H' ∧ alone r u = none) (fun nx' hnx => ?_) ?_
    · refine for_cut (fun J H1 => J = Itu (rowS r) ∧ Same H H1) (fun R hR => ?_) ?_
      · dsimp only [cxComp, cxOf, Cx.wish, tRet, tRetN, tSeq, tNext, tIfS, tDrop, tNot, tB, tTest, tAnd, tOr, tAndV, tOrV, tNotV, tIf, tCB, tCons, tNil, tVar, tC, tOp, tUn, tBM, tBM0, tCall, tLst, tTup, tAsg, tPar, tSl, tSl3, tNoPart, tPart, tChain, tComp, tCompS, iList, iRng1, iRng2, iEnum, iZip, rI, rI0, rU, rEq, rNe, rIxL, rIxT, rIxS, rIx, rSlL, rSlS, rCat, rEqL, rIsi, rAppend, rPop, rSetL, gSub, tDGet, tDIn, sDPut, tDisp, tPairs, iZipX, rIsiO, tFld, tMeth, tMake, sFld, tOrO, iEnumT, tMaxD, tSortK, tDNewK]
        exact ⟨_, rfl, _, rfl, hR _ _ ⟨rfl, Same.refl _⟩⟩
      · rintro J H1 ⟨rfl, s1⟩
        refine for_enumTW (fun i σ H' => ∃ v2 v3, σ = [some (.str (rowS r)), some (.str (rowS u)), v2, v3] ∧ Same H1 H' ∧ ∀ p, p < i → ¬ (r.getD p false = true ∧ u.getD p false = false)) ⟨none, none, rfl, Same.refl _, fun p hp => absurd hp (Nat.not_lt_zero _)⟩ ?_ ?_
        · rintro i c σ H2 H3 hc ⟨v2, v3, rfl, s2, hb⟩ s3
          obtain ⟨hi, rfl⟩ := sgn_at hc
          have h3 : Same H H3 := s1.trans (s2.trans s3)
          have more : ¬ (r.getD i false = true ∧ u.getD i false = false) → ∀ p, p < i + 1 → ¬ (r.getD p false = true ∧ u.getD p false = false) := fun h p hp => by
            rcases Nat.lt_succ_iff_lt_or_eq.mp hp with z | z
            · exact hb p z
            · rw [z]; exact h
          dsimp only [cxComp, cxOf, Cx.wish, tRet, tRetN, tSeq, tNext, tIfS, tDrop, tNot, tB, tTest, tAnd, tOr, tAndV, tOrV, tNotV, tIf, tCB, tCons, tNil, tVar, tC, tOp, tUn, tBM, tBM0, tCall, tLst, tTup, tAsg, tPar, tSl, tSl3, tNoPart, tPart, tChain, tComp, tCompS, iList, iRng1, iRng2, iEnum, iZip, rI, rI0, rU, rEq, rNe, rIxL, rIxT, rIxS, rIx, rSlL, rSlS, rCat, rEqL, rIsi, rAppend, rPop, rSetL, gSub, tDGet, tDIn, sDPut, tDisp, tPairs, iZipX, rIsiO, tFld, tMeth, tMake, sFld, tOrO, iEnumT, tMaxD, tSortK, tDNewK]
          refine ⟨_, rfl, rfl, _, rfl, ?_⟩
          rw [isX]
          cases h1 : r.getD i false with
          | false => exact iteFb rfl (iteFb rfl ⟨_, _, rfl, s2.trans s3, more (fun z => by rw [h1] at z; cases z.1)⟩)
          | true =>
            refine iteTb rfl ⟨_, rfl, _, rfl, _, _, _, rfl, rfl, row_size hz, row_at (by omega), rfl, _, rfl, ?_⟩
            rw [isM]
            cases h2 : u.getD i false with
            | true => exact iteFb rfl ⟨_, _, rfl, s2.trans s3, more (fun z => by rw [h2] at z; cases z.2)⟩
            | false =>
              refine iteTb rfl ⟨_, rfl, ?_⟩
              have e : aloneV r u = .int (i : Nat) := by
                unfold aloneV
                rw [alone_first hi h1 h2 hb]
              have q2 := q H3 h3
              rw [e] at q2
              exact q2
        · rintro σ H2 ⟨v2, v3, rfl, s2, hb⟩
          exact hnx _ _ ⟨s1.trans s2, alone_none fun p hp => hb p (by rw [rowS_len]; exact hp)⟩
    · rintro σ' H1 ⟨s1, e⟩
      dsimp only [cxComp, cxOf, Cx.wish, tRet, tRetN, tSeq, tNext, tIfS, tDrop, tNot, tB, tTest, tAnd, tOr, tAndV, tOrV, tNotV, tIf, tCB, tCons, tNil, tVar, tC, tOp, tUn, tBM, tBM0, tCall, tLst, tTup, tAsg, tPar, tSl, tSl3, tNoPart, tPart, tChain, tComp, tCompS, iList, iRng1, iRng2, iEnum, iZip, rI, rI0, rU, rEq, rNe, rIxL, rIxT, rIxS, rIx, rSlL, rSlS, rCat, rEqL, rIsi, rAppend, rPop, rSetL, gSub, tDGet, tDIn, sDPut, tDisp, tPairs, iZipX, rIsiO, tFld, tMeth, tMake, sFld, tOrO, iEnumT, tMaxD, tSortK, tDNewK]
      have q2 := q H1 s1
      unfold aloneV at q2
      rw [e] at q2
      exact q2
end
end Wa
namespace Wa
open PySem PySem.Spec PyProof.Rows L2
section
variable {P : Program} {w : World} {K : PySem.W.Frag} {mg : Str → Option Value} {base : Heap}
theorem S__law_cross : FnScope ["_law_table_here", "_law_one", "_law_first", "_law_other", "_law_second"] ["_law_table_here", "_law_one", "_law_first", "_law_other", "_law_second"] (defScope (top 45)) := ⟨rfl, rfl, rfl, by decide +kernel, rfl, by decide +kernel, by decide +kernel⟩
theorem ok__law_cross {f : Addr} {fd : FuncData} (F : Fun K "_law_cross" "_law_cross" (top 45) f fd) (T : Nm mg)
    (c_law_has : DefC P w K mg base 1 "_law_has" ["_law_table_here", "_law_row", "_law_column"] (spSign K true)) (c_law_hasnt : DefC P w K mg base 1 "_law_hasnt" ["_law_table_here", "_law_row", "_law_column"] (spSign K false)) :
    FnOk P w K mg base CX0 2 f fd ["_law_table_here", "_law_one", "_law_first", "_law_other", "_law_second"] (spCross K) := by
  have S := S__law_cross
  refine F.ok S (fun vs H Q E h => ?_) (fun cdv A outer s H vs Q E hr h => ?_)
  · obtain ⟨a, t, w, i, j, k, l, rfl, _⟩ := h
    rfl
  · obtain ⟨a, t, n, i, j, k, l, rfl, tb, q⟩ := h
    unfold crossT at q
    refine ⟨_, (pss_cons (ps_if (PW.pt (pw_or (pt_not (pt_val (pe_callC c_law_has hr (by rfl) (pa_cons (pv 0) (pa_cons (pv 1) (pa_cons (pv 2) pa_nil)))))) (pw_or1 (pt_not (pt_val (pe_callC c_law_has hr (by rfl) (pa_cons (pv 0) (pa_cons (pv 3) (pa_cons (pv 4) pa_nil))))))))) (pss_one (ps_ret pe_bl)) pss_nil)
      (pss_one (ps_ret (pe_and (pe_callC c_law_hasnt hr (by rfl) (pa_cons (pv 0) (pa_cons (pv 1) (pa_cons (pv 4) pa_nil)))) (pe_one (pe_callC c_law_hasnt hr (by rfl) (pa_cons (pv 0) (pa_cons (pv 3) (pa_cons (pv 2) pa_nil))))))))), ?_⟩
    dsimp only [cxComp, cxOf, Cx.wish, tRet, tRetN, tSeq, tNext, tIfS, tDrop, tNot, tB, tTest, tAnd, tOr, tAndV, tOrV, tNotV, tIf, tCB, tCons, tNil, tVar, tC, tOp, tUn, tBM, tBM0, tCall, tLst, tTup, tAsg, tPar, tSl, tSl3, tNoPart, tPart, tChain, tComp, tCompS, iList, iRng1, iRng2, iEnum, iZip, rI, rI0, rU, rEq, rNe, rIxL, rIxT, rIxS, rIx, rSlL, rSlS, rCat, rEqL, rIsi, rAppend, rPop, rSetL, gSub, tDGet, tDIn, sDPut, tDisp, tPairs, iZipX, rIsiO, tFld, tMeth, tMake, sFld, tOrO, iEnumT, tMaxD, tSortK, tDNewK]
    refine ⟨_, rfl, _, rfl, _, rfl, a, t, n, i, j, rfl, tb, _, rfl, ?_⟩
    cases h1 : atT t i j == some true with
    | false =>
      rw [h1] at q
      exact iteTb rfl q
    | true =>
      rw [h1] at q
      refine iteFb rfl ⟨_, rfl, _, rfl, _, rfl, a, t, n, k, l, rfl, tb, _, rfl, ?_⟩
      cases h2 : atT t k l == some true with
      | false =>
        rw [h2] at q
        exact iteTb rfl q
      | true =>
        rw [h2] at q
        refine iteFb rfl ⟨_, rfl, _, rfl, _, rfl, a, t, n, i, l, rfl, tb, _, rfl, ?_⟩
        cases h3 : atT t i l == some false with
        | false =>
          rw [h3] at q
          exact iteFb rfl q
        | true =>
          rw [h3] at q
          exact iteTb rfl ⟨_, rfl, _, rfl, _, rfl, a, t, n, k, j, rfl, tb, q⟩
end
end Wa
namespace Wa
open PySem PySem.Spec PyProof.Rows L2
/-- where the lambda's code is laid -/
def lpCross : Pos := ⟨183, 42, 183, 65⟩
def TabH (H : Hp) (Pt : Addr) : Prop := H Pt = some (.tbl lpCross "find_cross.<locals>.<lambda>")
theorem TabH.same {H H' : Hp} {Pt : Addr} (h : TabH H Pt) (s : Same H H') : TabH H' Pt := s _ _ h
end Wa
namespace Wa
open PySem PySem.Spec PyProof.Rows L2
section
variable {κ : Type} [DecidableEq κ]
end
end Wa
namespace Wa
open PySem PySem.Spec PyProof.Rows L2
def cc (t : Tab) (j : Nat) : Int := cntI (colT t j)
theorem colT_len (t : Tab) (j : Nat) : (colT t j).length = t.length := by unfold colT; rw [List.length_map]
theorem colT_at {t : Tab} {i : Nat} (h : i < t.length) (j : Nat) : (colT t j).getD i false = at2 t i j := by
  obtain ⟨r, er⟩ := row_of h
  rw [at2_row er]
  unfold colT
  rw [List.getD_eq_getElem?_getD, List.getElem?_map, er]
  rfl
end Wa
namespace Wa
open PySem PySem.Spec PyProof.Rows L2
def crossFs (i j k l : Int) : List (Str × V) := [("one", .int i), ("first", .int j), ("other", .int k), ("second", .int l)]
theorem crossT_isT {t : Tab} {w : Nat} (hw : Wid t w) {i j k l : Int} (h : crossT t i j k l = true) : isT t.length i = true ∧ isT t.length k = true ∧ isT w j = true ∧ isT w l = true := by
  unfold crossT at h
  rw [Bool.and_eq_true, Bool.and_eq_true, Bool.and_eq_true, beq_iff_eq, beq_iff_eq, beq_iff_eq, beq_iff_eq] at h
  exact ⟨isT_row h.1.1.1, isT_row h.1.1.2, isT_col hw h.1.1.1, isT_col hw h.1.1.2⟩
theorem at_eqB {o : Option Bool} {b c : Bool} (h : o = some c) : (o == some b) = (c == b) := by rw [h]; rfl
theorem not_true {b : Bool} (h : ¬ b = true) : b = false := by cases b <;> simp_all
def spShC (K : PySem.W.Frag) (cl : Str → Addr) : Sp := fun vs H Q _ => ∃ a t w D i j k l, vs = [.ref D, .ref a] ∧ Tb K H a t w ∧ Is K cl H D "Cross" (crossFs i j k l) ∧ ∀ H', Same H H' → Q (.bl (crossT t i j k l)) H'
section
variable {P : Program} {w : World} {K : PySem.W.Frag} {mg : Str → Option Value} {base : Heap}
theorem S_Cross_init : FnScope ["self", "one", "first", "other", "second"] ["self", "one", "first", "other", "second"] (defScope (inClass (top 23) 0)) := ⟨rfl, rfl, rfl, by decide +kernel, rfl, by decide +kernel, by decide +kernel⟩
theorem ok_Cross_init {f : Addr} {fd : FuncData} {cl : Str → Addr} (F : Fun K "__init__" "Cross.__init__" (inClass (top 23) 0) f fd) (G : Ks K mg cl) (N : Nas K cl) : FnOk P w K mg base CX0 1 f fd ["self", "one", "first", "other", "second"] (spMkI K cl "Cross" ["one", "first", "other", "second"]) := by
  have S := S_Cross_init
  refine F.ok S (fun vs H Q E h => ?_) (fun cdv A outer s H vs Q E hr h => ?_)
  · obtain ⟨x, dx, is, rfl, hl, _⟩ := h
    match is, hl with
    | [_, _, _, _], _ => rfl
  · obtain ⟨x, dx, is, rfl, hl, hx, q⟩ := h
    match is, hl with
    | [i, j, k, l], _ =>
      refine ⟨_, (pss_cons (ps_fld (pv 0) (pv 1) rfl)
      (pss_cons (ps_fld (pv 0) (pv 2) rfl)
      (pss_cons (ps_fld (pv 0) (pv 3) rfl)
      (pss_one (ps_fld (pv 0) (pv 4) rfl))))), ?_⟩
      dsimp only [cxComp, cxOf, Cx.wish, tRet, tRetN, tSeq, tNext, tIfS, tDrop, tNot, tB, tTest, tAnd, tOr, tAndV, tOrV, tNotV, tIf, tCB, tCons, tNil, tVar, tC, tOp, tUn, tBM, tBM0, tCall, tLst, tTup, tAsg, tPar, tSl, tSl3, tNoPart, tPart, tChain, tComp, tCompS, iList, iRng1, iRng2, iEnum, iZip, rI, rI0, rU, rEq, rNe, rIxL, rIxT, rIxS, rIx, rSlL, rSlS, rCat, rEqL, rIsi, rAppend, rPop, rSetL, gSub, tDGet, tDIn, sDPut, tDisp, tPairs, iZipX, rIsiO, tFld, tMeth, tMake, sFld, tOrO, iEnumT, tMaxD, tSortK, tDNewK]
      have c := (G.kl "Cross" (by decide)).cl
      refine ⟨_, rfl, _, rfl, x, _, dx, [], rfl, hx, c, N.na ("Cross", "one") (by decide), (by decide), ?_⟩
      have len1 : (putF "one" (V.int i) ([] : List (Str × V))).length ≤ 1 := Nat.le_refl _
      refine ⟨_, rfl, _, rfl, x, _, dx, putF "one" (V.int i) ([] : List (Str × V)), rfl, upd_same, c, N.na ("Cross", "first") (by decide), (Nat.lt_of_le_of_lt len1 (by decide)), ?_⟩
      have len2 : (putF "first" (V.int j) (putF "one" (V.int i) ([] : List (Str × V)))).length ≤ 2 := Nat.le_trans (putF_len _ _ _) (Nat.succ_le_succ len1)
      refine ⟨_, rfl, _, rfl, x, _, dx, putF "first" (V.int j) (putF "one" (V.int i) ([] : List (Str × V))), rfl, upd_same, c, N.na ("Cross", "other") (by decide), (Nat.lt_of_le_of_lt len2 (by decide)), ?_⟩
      have len3 : (putF "other" (V.int k) (putF "first" (V.int j) (putF "one" (V.int i) ([] : List (Str × V))))).length ≤ 3 := Nat.le_trans (putF_len _ _ _) (Nat.succ_le_succ len2)
      refine ⟨_, rfl, _, rfl, x, _, dx, putF "other" (V.int k) (putF "first" (V.int j) (putF "one" (V.int i) ([] : List (Str × V)))), rfl, upd_same, c, N.na ("Cross", "second") (by decide), (Nat.lt_of_le_of_lt len3 (by decide)), ?_⟩
      refine q _ (fun b o e n => by rw [upd_ne n, upd_ne n, upd_ne n, upd_ne n]; exact e) ⟨dx, putF "second" (V.int l) (putF "other" (V.int k) (putF "first" (V.int j) (putF "one" (V.int i) ([] : List (Str × V))))), upd_same, ?_, ?_⟩
      · intro p hp
        have hp : p ∈ ([("one", V.int i), ("first", V.int j), ("other", V.int k), ("second", V.int l)] : List (Str × V)) := hp
        simp only [List.mem_cons, List.mem_nil_iff, or_false] at hp
        rcases hp with rfl | rfl | rfl | rfl
        · show List.lookup ("one" : Str) (putF "second" (V.int l) (putF "other" (V.int k) (putF "first" (V.int j) (putF "one" (V.int i) ([] : List (Str × V)))))) = some (V.int i)
          rw [lookup_putF, if_neg (show ¬ ("one" : Str) = "second" by decide +kernel), lookup_putF, if_neg (show ¬ ("one" : Str) = "other" by decide +kernel), lookup_putF, if_neg (show ¬ ("one" : Str) = "first" by decide +kernel), lookup_putF, if_pos rfl]
        · show List.lookup ("first" : Str) (putF "second" (V.int l) (putF "other" (V.int k) (putF "first" (V.int j) (putF "one" (V.int i) ([] : List (Str × V)))))) = some (V.int j)
          rw [lookup_putF, if_neg (show ¬ ("first" : Str) = "second" by decide +kernel), lookup_putF, if_neg (show ¬ ("first" : Str) = "other" by decide +kernel), lookup_putF, if_pos rfl]
        · show List.lookup ("other" : Str) (putF "second" (V.int l) (putF "other" (V.int k) (putF "first" (V.int j) (putF "one" (V.int i) ([] : List (Str × V)))))) = some (V.int k)
          rw [lookup_putF, if_neg (show ¬ ("other" : Str) = "second" by decide +kernel), lookup_putF, if_pos rfl]
        · show List.lookup ("second" : Str) (putF "second" (V.int l) (putF "other" (V.int k) (putF "first" (V.int j) (putF "one" (V.int i) ([] : List (Str × V)))))) = some (V.int l)
          rw [lookup_putF, if_pos rfl]
      · constructor
        · rw [lookup_putF, if_neg (show ¬ ("shows" : Str) = "second" by decide +kernel), lookup_putF, if_neg (show ¬ ("shows" : Str) = "other" by decide +kernel), lookup_putF, if_neg (show ¬ ("shows" : Str) = "first" by decide +kernel), lookup_putF, if_neg (show ¬ ("shows" : Str) = "one" by decide +kernel)]
          rfl
        · rw [lookup_putF, if_neg (show ¬ ("shows_unlike" : Str) = "second" by decide +kernel), lookup_putF, if_neg (show ¬ ("shows_unlike" : Str) = "other" by decide +kernel), lookup_putF, if_neg (show ¬ ("shows_unlike" : Str) = "first" by decide +kernel), lookup_putF, if_neg (show ¬ ("shows_unlike" : Str) = "one" by decide +kernel)]
          rfl
theorem S_Cross_shows : FnScope ["self", "table"] ["self", "table"] (defScope (inClass (top 23) 1)) := ⟨rfl, rfl, rfl, by decide +kernel, rfl, by decide +kernel, by decide +kernel⟩
set_option maxHeartbeats 4000000 in
theorem ok_Cross_shows {f : Addr} {fd : FuncData} {cl : Str → Addr} (F : Fun K "shows" "Cross.shows" (inClass (top 23) 1) f fd) (T : Nm mg) (G : Ks K mg cl) (N : Nas K cl) (c_is_row_count : DefC P w K mg base 2 "is_row_count" ["table", "value"] (spIsRowC K))
    (c_is_column_count : DefC P w K mg base 2 "is_column_count" ["table", "value"] (spIsColC K)) (c_has : DefC P w K mg base 1 "has" ["table", "row", "column"] (spHas K)) : FnOk P w K mg base CX0 3 f fd ["self", "table"] (spShC K cl) := by
  have S := S_Cross_shows
  refine F.ok S (fun vs H Q E h => ?_) (fun cdv A outer s H vs Q E hr h => ?_)
  · obtain ⟨a, t, w, D, i, j, k, l, rfl, _⟩ := h
    rfl
  · obtain ⟨a, t, n, D, i, j, k, l, rfl, tb, an, q⟩ := h
    have is : Is K cl H D "Cross" [("one", .int i), ("first", .int j), ("other", .int k), ("second", .int l)] := an
    have n1 := N.na ("Cross", "one") (by decide)
    have n2 := N.na ("Cross", "first") (by decide)
    have n3 := N.na ("Cross", "other") (by decide)
    have n4 := N.na ("Cross", "second") (by decide)
    have q1 := q H (Same.refl _)
    have fls : ¬ crossT t i j k l = true → Q (.bl false) H := fun z => by
      rw [not_true z] at q1
      exact q1
    refine ⟨_, (pss_cons (ps_if (PW.pt (pw_or (pt_not (pt_val (pe_callC c_is_row_count hr (by rfl) (pa_cons (pv 1) (pa_cons (pe_fld (pv 0) rfl) pa_nil))))) (pw_or1 (pt_not (pt_val (pe_callC c_is_row_count hr (by rfl) (pa_cons (pv 1) (pa_cons (pe_fld (pv 0) rfl) pa_nil)))))))) (pss_one (ps_ret pe_bl)) pss_nil)
      (pss_cons (ps_if (PW.pt (pw_or (pt_not (pt_val (pe_callC c_is_column_count hr (by rfl) (pa_cons (pv 1) (pa_cons (pe_fld (pv 0) rfl) pa_nil))))) (pw_or1 (pt_not (pt_val (pe_callC c_is_column_count hr (by rfl) (pa_cons (pv 1) (pa_cons (pe_fld (pv 0) rfl) pa_nil)))))))) (pss_one (ps_ret pe_bl)) pss_nil)
      (pss_cons (ps_if (PW.pt (pw_or (pt_not (pt_val (pe_callC c_has hr (by rfl) (pa_cons (pv 1) (pa_cons (pe_fld (pv 0) rfl) (pa_cons (pe_fld (pv 0) rfl) pa_nil)))))) (pw_or1 (pt_not (pt_val (pe_callC c_has hr (by rfl) (pa_cons (pv 1) (pa_cons (pe_fld (pv 0) rfl) (pa_cons (pe_fld (pv 0) rfl) pa_nil))))))))) (pss_one (ps_ret pe_bl)) pss_nil)
      (pss_one (ps_ret (pe_and (pe_not (pe_callC c_has hr (by rfl) (pa_cons (pv 1) (pa_cons (pe_fld (pv 0) rfl) (pa_cons (pe_fld (pv 0) rfl) pa_nil))))) (pe_one (pe_not (pe_callC c_has hr (by rfl) (pa_cons (pv 1) (pa_cons (pe_fld (pv 0) rfl) (pa_cons (pe_fld (pv 0) rfl) pa_nil)))))))))))), ?_⟩
    dsimp only [cxComp, cxOf, Cx.wish, tRet, tRetN, tSeq, tNext, tIfS, tDrop, tNot, tB, tTest, tAnd, tOr, tAndV, tOrV, tNotV, tIf, tCB, tCons, tNil, tVar, tC, tOp, tUn, tBM, tBM0, tCall, tLst, tTup, tAsg, tPar, tSl, tSl3, tNoPart, tPart, tChain, tComp, tCompS, iList, iRng1, iRng2, iEnum, iZip, rI, rI0, rU, rEq, rNe, rIxL, rIxT, rIxS, rIx, rSlL, rSlS, rCat, rEqL, rIsi, rAppend, rPop, rSetL, gSub, tDGet, tDIn, sDPut, tDisp, tPairs, iZipX, rIsiO, tFld, tMeth, tMake, sFld, tOrO, iEnumT, tMaxD, tSortK, tDNewK]
    refine ⟨_, rfl, _, rfl, is.get G (by decide) n1 (.head _) ⟨a, t, n, i, rfl, tb, _, rfl, ?_⟩⟩
    cases hi : isT t.length i with
    | false => exact iteTb rfl (iteTb rfl (fls fun z => by rw [(crossT_isT tb.wid z).1] at hi; cases hi))
    | true =>
    refine iteFb rfl ⟨_, rfl, _, rfl, is.get G (by decide) n3 (.tail _ (.tail _ (.head _))) ⟨a, t, n, k, rfl, tb, _, rfl, ?_⟩⟩
    cases hk : isT t.length k with
    | false => exact iteTb rfl (fls fun z => by rw [(crossT_isT tb.wid z).2.1] at hk; cases hk)
    | true =>
    have ew : widT t = n := by
      apply wid_head tb.wid
      intro e
      rw [isT_iff, e] at hi
      simp at hi
      omega
    refine iteFb rfl ⟨_, rfl, _, rfl, is.get G (by decide) n2 (.tail _ (.head _)) ⟨a, t, n, j, rfl, tb, _, rfl, ?_⟩⟩
    rw [ew]
    cases hj : isT n j with
    | false => exact iteTb rfl (iteTb rfl (fls fun z => by rw [(crossT_isT tb.wid z).2.2.1] at hj; cases hj))
    | true =>
    refine iteFb rfl ⟨_, rfl, _, rfl, is.get G (by decide) n4 (.tail _ (.tail _ (.tail _ (.head _)))) ⟨a, t, n, l, rfl, tb, _, rfl, ?_⟩⟩
    rw [ew]
    cases hl : isT n l with
    | false => exact iteTb rfl (fls fun z => by rw [(crossT_isT tb.wid z).2.2.2] at hl; cases hl)
    | true =>
    obtain ⟨b1, e1⟩ := atT_of tb.wid hi hj
    obtain ⟨b2, e2⟩ := atT_of tb.wid hk hl
    obtain ⟨b3, e3⟩ := atT_of tb.wid hi hl
    obtain ⟨b4, e4⟩ := atT_of tb.wid hk hj
    unfold crossT at q1
    rw [at_eqB e1, at_eqB e2, at_eqB e3, at_eqB e4] at q1
    refine iteFb rfl ⟨_, rfl, _, rfl, is.get G (by decide) n1 (.head _) ?_⟩
    refine ⟨_, rfl, is.get G (by decide) n2 (.tail _ (.head _)) ⟨a, t, n, i, j, b1, rfl, tb, e1, _, rfl, ?_⟩⟩
    cases b1 with
    | false => exact iteTb rfl (iteTb rfl q1)
    | true =>
    refine iteFb rfl ⟨_, rfl, _, rfl, is.get G (by decide) n3 (.tail _ (.tail _ (.head _))) ?_⟩
    refine ⟨_, rfl, is.get G (by decide) n4 (.tail _ (.tail _ (.tail _ (.head _)))) ⟨a, t, n, k, l, b2, rfl, tb, e2, _, rfl, ?_⟩⟩
    cases b2 with
    | false => exact iteTb rfl q1
    | true =>
    refine iteFb rfl ⟨_, rfl, _, rfl, is.get G (by decide) n1 (.head _) ?_⟩
    refine ⟨_, rfl, is.get G (by decide) n4 (.tail _ (.tail _ (.tail _ (.head _)))) ⟨a, t, n, i, l, b3, rfl, tb, e3, _, rfl, _, rfl, ?_⟩⟩
    cases b3 with
    | true => exact iteFb rfl q1
    | false =>
    refine iteTb rfl ⟨_, rfl, _, rfl, is.get G (by decide) n3 (.tail _ (.tail _ (.head _))) ?_⟩
    refine ⟨_, rfl, is.get G (by decide) n2 (.tail _ (.head _)) ⟨a, t, n, k, j, b4, rfl, tb, e4, _, rfl, ?_⟩⟩
    cases b4 <;> exact q1
end
end Wa
namespace Wa
open PySem PySem.Spec PyProof.Rows L2
theorem GL_one {r : List Bool} {ns : List Int} {m m' : Int} (h : GL r ns m) (h' : GL r ns m') : m = m' := by
  rcases h.2 with ⟨e, a⟩ | ⟨i, hi, b, e⟩ <;> rcases h'.2 with ⟨e', a'⟩ | ⟨j, hj, b', e'⟩
  · rw [e, e']
  · rw [a j hj] at b'; cases b'
  · rw [a' i hi] at b; cases b
  · have h1 := h.1 j hj b'
    have h2 := h'.1 i hi b
    omega
open Classical in
/-- the greatest number where r has nothing -/
noncomputable def glV (r : List Bool) (ns : List Int) : Int := if h : ∃ m, GL r ns m then Classical.choose h else 0
theorem glV_of {r : List Bool} {ns : List Int} {m : Int} (h : GL r ns m) : m = glV r ns ∧ GL r ns (glV r ns) := by
  have e : ∃ m, GL r ns m := ⟨m, h⟩
  have s : GL r ns (glV r ns) := by
    unfold glV
    rw [dif_pos e]
    exact Classical.choose_spec e
  exact ⟨GL_one h s, s⟩
theorem GL_ex (r : List Bool) (ns : List Int) : ∃ m, GL r ns m := by
  have key : ∀ n, n ≤ r.length → (∀ i, i < n → r.getD i false = true) ∨ ∃ i, i < n ∧ r.getD i false = false ∧ ∀ k, k < n → r.getD k false = false → ns.getD k 0 ≤ ns.getD i 0 := by
    intro n
    induction n with
    | zero => exact fun _ => .inl fun i hi => absurd hi (Nat.not_lt_zero _)
    | succ n ih =>
      intro hn
      cases hb : r.getD n false with
      | true =>
        rcases ih (by omega) with h | ⟨i, hi, h1, h2⟩
        · refine .inl fun k hk => ?_
          rcases Nat.lt_succ_iff_lt_or_eq.mp hk with z | z
          · exact h k z
          · rw [z]; exact hb
        · refine .inr ⟨i, by omega, h1, fun k hk hk2 => ?_⟩
          rcases Nat.lt_succ_iff_lt_or_eq.mp hk with z | z
          · exact h2 k z hk2
          · rw [z, hb] at hk2; cases hk2
      | false =>
        rcases ih (by omega) with h | ⟨i, hi, h1, h2⟩
        · refine .inr ⟨n, by omega, hb, fun k hk hk2 => ?_⟩
          rcases Nat.lt_succ_iff_lt_or_eq.mp hk with z | z
          · rw [h k z] at hk2; cases hk2
          · rw [z]; exact Int.le_refl _
        · by_cases hc : ns.getD n 0 ≤ ns.getD i 0
          · refine .inr ⟨i, by omega, h1, fun k hk hk2 => ?_⟩
            rcases Nat.lt_succ_iff_lt_or_eq.mp hk with z | z
            · exact h2 k z hk2
            · rw [z]; exact hc
          · refine .inr ⟨n, by omega, hb, fun k hk hk2 => ?_⟩
            rcases Nat.lt_succ_iff_lt_or_eq.mp hk with z | z
            · have := h2 k z hk2
              omega
            · rw [z]; exact Int.le_refl _
  rcases key r.length (Nat.le_refl _) with h | ⟨i, hi, h1, h2⟩
  · exact ⟨0, ⟨(fun i hi z => by rw [h i hi] at z; cases z), .inl ⟨rfl, h⟩⟩⟩
  · exact ⟨ns.getD i 0, ⟨h2, .inr ⟨i, hi, h1, rfl⟩⟩⟩
theorem glV_is (r : List Bool) (ns : List Int) : GL r ns (glV r ns) := let ⟨_, h⟩ := GL_ex r ns; (glV_of h).2
def rowB (z : Str) : List Bool := z.cps.toList.map fun c => c == 120
theorem rowB_is (r : List Bool) : rowB (rowS r) = r := by
  unfold rowB
  rw [rowS_list, List.map_map]
  conv => rhs; rw [← List.map_id r]
  apply List.map_congr_left
  intro b _
  cases b <;> rfl
def spLacking (K : PySem.W.Frag) : Sp := fun vs H Q _ => ∃ r A, ∃ ns : List Int, vs = [.str (rowS r), .ref A] ∧ SqL K H A (ns.map V.int) ∧ ns.length = r.length ∧ r.length ≤ 100 ∧ ∀ H', Same H H' → Q (.int (glV r ns)) H'

def spFindCross (K : PySem.W.Frag) (cl : Str → Addr) (Pt : Addr) : Sp := fun vs H Q _ => ∃ a t w, vs = [.ref a] ∧ Tb K H a t w ∧ t.length < 65 ∧ TabH H Pt ∧
  (∀ D i j k l H', Same H H' → Is K cl H' D "Cross" (crossFs i j k l) → crossT t i j k l = true → Q (.ref D) H') ∧ ∀ H', Same H H' → NoCross t → Q .non H'
/-- what a sorting by keys tells -/
theorem byKey {ks ms : List Int} (h : ByKey ks ms) : ms.length = ks.length ∧ (∀ z ∈ ms, ∃ i : Nat, z = (i : Int) ∧ i < ks.length) ∧ (∀ i : Nat, i < ks.length → (i : Int) ∈ ms) ∧ ∀ p q : Nat, p < q → q < ms.length → ks.getD (ms.getD p 0).toNat 0 ≤ ks.getD (ms.getD q 0).toNat 0 := by
  obtain ⟨ps, hp, rfl, hs⟩ := h.ex
  have hl : ps.length = ks.length := by
    have := hp.length_eq
    rw [this]
    simp
  have hz : ∀ x ∈ ps, ∃ i : Nat, i < ks.length ∧ x.2 = (i : Int) ∧ ks.getD i 0 = x.1 := fun x hx => by
    have hx' := hp.mem_iff.mp hx
    obtain ⟨i, hi, e⟩ := List.getElem_of_mem hx'
    have hi' : i < ks.length := by simpa using hi
    refine ⟨i, hi', ?_, ?_⟩
    · rw [← e]; simp
    · rw [← e]; simp [hi']
  refine ⟨by rw [List.length_map, hl], fun z hz' => ?_, fun i hi => ?_, fun p q hpq hq => ?_⟩
  · obtain ⟨x, hx, rfl⟩ := List.mem_map.mp hz'
    obtain ⟨i, hi, e, _⟩ := hz x hx
    exact ⟨i, e, hi⟩
  · have hm : (ks[i], (i : Int)) ∈ ks.zip ((List.range ks.length).map fun (i : Nat) => (i : Int)) := by
      rw [List.mem_iff_getElem]
      exact ⟨i, by simpa using hi, by simp⟩
    exact List.mem_map.mpr ⟨_, hp.mem_iff.mpr hm, rfl⟩
  · rw [List.length_map] at hq
    have hp' : p < ps.length := Nat.lt_trans hpq hq
    have e1 : (ps.map Prod.snd).getD p 0 = ps[p].2 := by simp [hp']
    have e2 : (ps.map Prod.snd).getD q 0 = ps[q].2 := by simp [hq]
    obtain ⟨i, _, ei, ki⟩ := hz ps[p] (List.getElem_mem hp')
    obtain ⟨j, _, ej, kj⟩ := hz ps[q] (List.getElem_mem hq)
    rw [e1, e2, ei, ej, Int.toNat_natCast, Int.toNat_natCast, ki, kj]
    exact List.pairwise_iff_getElem.mp hs p q hp' hq hpq
theorem cut_one (ms : List Int) : cutV (ms.map V.int) (some 1) none = (ms.drop 1).map V.int := by
  unfold cutV
  rw [show (1 : Int) = ((1 : Nat) : Int) from rfl, HT.sIx_nat, HT.sIx_none, List.length_map]
  rw [List.take_of_length_le (by simp), ← List.map_drop]
  cases ms with
  | nil => rfl
  | cons z ms =>
    congr 1
theorem counts_get {t : Tab} {i : Nat} {r : List Bool} (e : t[i]? = some r) : (t.map cntI).getD i 0 = cntI r := by
  rw [List.getD_eq_getElem?_getD, List.getElem?_map, e]
  rfl
section
variable {P : Program} {w : World} {K : PySem.W.Frag} {mg : Str → Option Value} {base : Heap}
theorem S_greatest_lacking : FnScope ["signs", "numbers"] ["signs", "numbers"] (defScope (top 36)) := ⟨rfl, rfl, rfl, by decide +kernel, rfl, by decide +kernel, by decide +kernel⟩
theorem ok_greatest_lacking {f : Addr} {fd : FuncData} (F : Fun K "greatest_lacking" "greatest_lacking" (top 36) f fd) (T : Nm mg) (n_max : mg "max" = none) : FnOk P w K mg base CX0 1 f fd ["signs", "numbers"] (spLacking K) := by
  have S := S_greatest_lacking
  refine F.ok S (fun vs H Q E h => ?_) (fun cdv A outer s H vs Q E hr h => ?_)
  · obtain ⟨r, A, ns, rfl, _⟩ := h
    rfl
  · obtain ⟨r, A, ns, rfl, hA, hl, hz, q⟩ := h
    refine ⟨_, (pss_one (ps_ret (pe_maxD rfl (by rfl) n_max (pa_cons (pe_comp (N := ["sign", "number"]) (lift := [none, none]) (.of (by kernel_rfl)) (pi_zipX (by rfl) T.n_zip (pa_cons (pv 0) (pa_cons (pv 1) pa_nil))) (fun b => (pg_tup (n := 2) rfl (pgs_cons (pg_name (i := 0) (show (["sign", "number"] : List Str).Nodup from by decide +kernel) rfl (by first | exact Or.inl rfl | exact Or.inr rfl)) (pgs_cons (pg_name (i := 1) (show (["sign", "number"] : List Str).Nodup from by decide +kernel) rfl (by first | exact Or.inl rfl | exact Or.inr rfl)) pgs_nil)))) (fun b => (pifs_one (pt_cmpR op_eq (pv 0) pe_str (nomark _)))) (fun b => (pv 1))) pa_nil)))), ?_⟩
    dsimp only [cxComp, cxOf, Cx.wish, tRet, tRetN, tSeq, tNext, tIfS, tDrop, tNot, tB, tTest, tAnd, tOr, tAndV, tOrV, tNotV, tIf, tCB, tCons, tNil, tVar, tC, tOp, tUn, tBM, tBM0, tCall, tLst, tTup, tAsg, tPar, tSl, tSl3, tNoPart, tPart, tChain, tComp, tCompS, iList, iRng1, iRng2, iEnum, iZip, rI, rI0, rU, rEq, rNe, rIxL, rIxT, rIxS, rIx, rSlL, rSlS, rCat, rEqL, rIsi, rAppend, rPop, rSetL, gSub, tDGet, tDIn, sDPut, tDisp, tPairs, iZipX, rIsiO, tFld, tMeth, tMake, sFld, tOrO, iEnumT, tMaxD, tSortK, tDNewK]
    refine ⟨_, rfl, _, rfl, .t (rowS r), .l A, rfl, trivial, ⟨_, hA⟩, comp_zipTL (fun i => if r.getD i false = false then some (.int (ns.getD i 0)) else none) hA (by rw [rowS_len, List.length_map, hl]) (by rw [List.length_map, hl]; exact n100 hz) (fun i c y hc hy => ?_) fun D H1 s1 n1 e1 => ?_⟩
    · intro H1 k s1 hk
      obtain ⟨hi, rfl⟩ := sgn_at hc
      obtain ⟨z, ez, rfl⟩ := int_at hy
      have hz' : ns.getD i 0 = z := by simp [ez]
      refine ⟨_, rfl, rfl, _, rfl, ?_⟩
      rw [isM]
      rw [hz'] at hk
      cases h : r.getD i false with
      | true =>
        have h2 := hk _ (Same.refl _)
        rw [h] at h2
        exact iteFb rfl h2
      | false =>
        have h2 := hk _ (Same.refl _)
        rw [h] at h2
        exact iteTb rfl ⟨_, rfl, h2⟩
    · rw [List.length_map] at e1
      have e2 : (List.range ns.length).filterMap (fun i => if r.getD i false = false then some (V.int (ns.getD i 0)) else none) = ((List.range ns.length).filterMap fun i => if r.getD i false = false then some (ns.getD i 0) else none).map V.int := by
        rw [List.map_filterMap]
        apply fm_congr
        intro i _
        split <;> rfl
      rw [e2] at e1
      refine ⟨D, _, rfl, .of e1, fun m hm => ?_⟩
      have mem : ∀ z, z ∈ ((List.range ns.length).filterMap fun i => if r.getD i false = false then some (ns.getD i 0) else none) ↔ ∃ i, i < r.length ∧ r.getD i false = false ∧ z = ns.getD i 0 := fun z => by
        rw [List.mem_filterMap]
        constructor
        · rintro ⟨i, hi, e⟩
          rw [List.mem_range, hl] at hi
          split at e
          · rename_i h
            exact ⟨i, hi, h, (Option.some.inj e).symm⟩
          · cases e
        · rintro ⟨i, hi, h, rfl⟩
          exact ⟨i, by rw [List.mem_range, hl]; exact hi, by rw [if_pos h]⟩
      have gl : GL r ns m := ?_
      · rw [(glV_of gl).1]
        exact q H1 s1
      rcases hm with ⟨h1, h2⟩ | ⟨h1, h2⟩
      · refine ⟨fun i hi h => ?_, .inl ⟨h2, fun i hi => ?_⟩⟩
        · have := (mem _).mpr ⟨i, hi, h, rfl⟩
          rw [h1] at this
          cases this
        · cases h : r.getD i false with
          | true => rfl
          | false =>
            have := (mem _).mpr ⟨i, hi, h, rfl⟩
            rw [h1] at this
            cases this
      · exact ⟨fun i hi h => h2 _ ((mem _).mpr ⟨i, hi, h, rfl⟩), .inr ((mem m).mp h1)⟩
theorem S_find_cross : FnScope ["table", "counts", "order", "one", "other", "first"] ["table"] (defScope (top 37)) := ⟨rfl, rfl, rfl, by decide +kernel, rfl, by decide +kernel, by decide +kernel⟩
set_option maxHeartbeats 4000000 in
theorem ok_find_cross {f : Addr} {fd : FuncData} {cl : Str → Addr} {Pt c : Addr} (F : Fun K "find_cross" "find_cross" (top 37) f fd) (T : Nm mg) (hfd : fd.code = .ref c) (hC : PySem.W.CodeHd base c Pt) (hB : base.BuiltinsAt mg Pt)
    (c_signs_count : DefC P w K mg base 1 "signs_count" ["texts"] (spCounts K)) (c_place_had_alone : DefC P w K mg base 1 "place_had_alone" ["signs", "others"] spAlone)
    (c_Cross : MakC P w K mg base 1 "Cross" (cl "Cross") ["self", "one", "first", "other", "second"] (spMkI K cl "Cross" ["one", "first", "other", "second"])) : FnOk P w K mg base CX0 4 f fd ["table"] (spFindCross K cl Pt) := by
  have S := S_find_cross
  refine F.okC S (fun vs H Q E h => ?_) (fun cdv A outer s H vs Q E hcd hr h => ?_)
  · obtain ⟨a, t, w, rfl, _⟩ := h
    rfl
  · obtain ⟨a, t, n, rfl, tb, h64, hP, q1, q2⟩ := h
    have ecd : cdv = .ref c := hcd.symm.trans hfd
    have hrm : (A.deeper (envOfC "find_cross" (defScope (top 37)) s.heap.objs.size f cdv)).depth + 10 < recursionLimit := by
      have := hr.dp
      omega
    refine ⟨_, (pss_cons (ps_set (i := 1) S.nd rfl (by first | exact Or.inl rfl | exact Or.inr rfl) (pe_callC c_signs_count hr (by rfl) (pa_cons (pv 0) pa_nil)))
      (pss_cons (ps_set (i := 2) S.nd rfl (by first | exact Or.inl rfl | exact Or.inr rfl) (pe_sortK (P := Pt) (i := 1) (by exact ⟨⟨_, ecd, hC⟩, hB⟩) (by exact ⟨rfl, rfl, rfl, by decide, rfl, rfl, fun _ _ _ _ _ _ _ => rfl, by decide, by decide, by decide⟩) (by rfl) rfl hrm (by rfl) T.n_sorted rfl (by rfl) (pa_cons (pe_callTy call_range1v (by rfl) T.n_range bt_range (pa_cons (pe_callB call_len_seq (by rfl) T.n_len bt_len (pa_cons (pv 0) pa_nil)) pa_nil)) pa_nil) (hcl := fun _ e => closure_one rfl e)))
      (pss_cons (ps_for PassesOwn.never rfl (pi_zip (by rfl) T.n_zip (pa_cons (pv 2) (pa_cons (pe_slice sl_list (pv 2) (po_some pe_int) po_none) pa_nil))) (pg_tup (n := 2) rfl (pgs_cons (pg_name (i := 3) S.nd rfl (by first | exact Or.inl rfl | exact Or.inr rfl)) (pgs_cons (pg_name (i := 4) S.nd rfl (by first | exact Or.inl rfl | exact Or.inr rfl)) pgs_nil))) (pss_cons (ps_set (i := 5) S.nd rfl (by first | exact Or.inl rfl | exact Or.inr rfl) (pe_callC c_place_had_alone hr (by rfl) (pa_cons (pe_ix ix_list (pv 0) (pv 3) (fun _ _ => rfl)) (pa_cons (pe_ix ix_list (pv 0) (pv 4) (fun _ _ => rfl)) pa_nil))))
      (pss_one (ps_if (pt_cmpR op_notN (pv 5) pe_non (nomark _)) (pss_one (ps_ret (pe_makeC c_Cross hr (by rfl) (pa_cons (pv 3) (pa_cons (pv 5) (pa_cons (pv 4) (pa_cons (pe_callC c_place_had_alone hr (by rfl) (pa_cons (pe_ix ix_list (pv 0) (pv 4) (fun _ _ => rfl)) (pa_cons (pe_ix ix_list (pv 0) (pv 3) (fun _ _ => rfl)) pa_nil))) pa_nil))))))) pss_nil))))
      (pss_one (ps_ret pe_non))))), ?_⟩
    refine seq_cut (fun σ' H' => ∃ C, σ' = [some (.ref a), some (.ref C), none, none, none, none] ∧ Same H H' ∧ H' C = some (.lst ((t.map cntI).map V.int))) (fun nx' hnx => ?_) ?_
    · dsimp only [cxComp, cxOf, Cx.wish, tRet, tRetN, tSeq, tNext, tIfS, tDrop, tNot, tB, tTest, tAnd, tOr, tAndV, tOrV, tNotV, tIf, tCB, tCons, tNil, tVar, tC, tOp, tUn, tBM, tBM0, tCall, tLst, tTup, tAsg, tPar, tSl, tSl3, tNoPart, tPart, tChain, tComp, tCompS, iList, iRng1, iRng2, iEnum, iZip, rI, rI0, rU, rEq, rNe, rIxL, rIxT, rIxS, rIx, rSlL, rSlS, rCat, rEqL, rIsi, rAppend, rPop, rSetL, gSub, tDGet, tDIn, sDPut, tDisp, tPairs, iZipX, rIsiO, tFld, tMeth, tMake, sFld, tOrO, iEnumT, tMaxD, tSortK, tDNewK]
      exact ⟨_, rfl, a, t, n, rfl, tb, fun D H' s' _ e => hnx _ _ ⟨D, rfl, s', e⟩⟩
    rintro σ1 H1 ⟨C, rfl, s1, eC⟩
    refine seq_cut (fun σ' H' => ∃ L ms, σ' = [some (.ref a), some (.ref C), some (.ref L), none, none, none] ∧ Same H1 H' ∧ H' L = some (.lst (ms.map V.int)) ∧ ByKey (t.map cntI) ms) (fun nx' hnx => ?_) ?_
    · dsimp only [cxComp, cxOf, Cx.wish, tRet, tRetN, tSeq, tNext, tIfS, tDrop, tNot, tB, tTest, tAnd, tOr, tAndV, tOrV, tNotV, tIf, tCB, tCons, tNil, tVar, tC, tOp, tUn, tBM, tBM0, tCall, tLst, tTup, tAsg, tPar, tSl, tSl3, tNoPart, tPart, tChain, tComp, tCompS, iList, iRng1, iRng2, iEnum, iZip, rI, rI0, rU, rEq, rNe, rIxL, rIxT, rIxS, rIx, rSlL, rSlS, rCat, rEqL, rIsi, rAppend, rPop, rSetL, gSub, tDGet, tDIn, sDPut, tDisp, tPairs, iZipX, rIsiO, tFld, tMeth, tMake, sFld, tOrO, iEnumT, tMaxD, tSortK, tDNewK]
      refine ⟨_, rfl, a, _, rfl, .inl (tb.same s1).at', _, rfl, fun r hr' => ?_⟩
      have s2 : Same H1 (upd H1 r (RngO 0 ((tabV t).length : Nat) 1 r)) := (Same.refl H1).upd hr'
      refine ⟨r, C, t.map cntI, rfl, (by rw [upd_same, tabV_len, List.length_map]), (by rw [List.length_map]; omega), rfl, .of (s2 _ _ eC), (hP.same s1).same s2, fun L ms H' s' hL eL bk => hnx _ _ ⟨L, ms, rfl, s2.trans s', eL, bk⟩⟩
    rintro σ2 H2 ⟨L, ms, rfl, s2, eL, bk⟩
    obtain ⟨hml, hin, hall, hord⟩ := byKey bk
    rw [List.length_map] at hml hin hall
    refine seq_cut (fun σ' H' => Same H H' ∧ NoCross t) (fun nx' hnx => ?_) ?_
    · refine for_cut (fun J H3 => ∃ M, J = Itz K L M ∧ Same H2 H3 ∧ H3 M = some (.lst ((ms.drop 1).map V.int))) (fun R hR => ?_) ?_
      · dsimp only [cxComp, cxOf, Cx.wish, tRet, tRetN, tSeq, tNext, tIfS, tDrop, tNot, tB, tTest, tAnd, tOr, tAndV, tOrV, tNotV, tIf, tCB, tCons, tNil, tVar, tC, tOp, tUn, tBM, tBM0, tCall, tLst, tTup, tAsg, tPar, tSl, tSl3, tNoPart, tPart, tChain, tComp, tCompS, iList, iRng1, iRng2, iEnum, iZip, rI, rI0, rU, rEq, rNe, rIxL, rIxT, rIxS, rIx, rSlL, rSlS, rCat, rEqL, rIsi, rAppend, rPop, rSetL, gSub, tDGet, tDIn, sDPut, tDisp, tPairs, iZipX, rIsiO, tFld, tMeth, tMake, sFld, tOrO, iEnumT, tMaxD, tSortK, tDNewK]
        refine ⟨_, rfl, _, rfl, _, rfl, L, _, rfl, .of eL, fun M hM => ?_⟩
        rw [cut_one]
        have s3 : Same H2 (upd H2 M (.lst ((ms.drop 1).map V.int))) := (Same.refl H2).upd hM
        exact ⟨L, M, rfl, ⟨_, .of (s3 _ _ eL)⟩, ⟨_, .of upd_same⟩, hR _ _ ⟨M, rfl, s3, upd_same⟩⟩
      · rintro J H3 ⟨M, rfl, s3, eM⟩
        have h3 : Same H H3 := s1.trans (s2.trans s3)
        refine for_zipS (xs := ms.map V.int) (ys := (ms.drop 1).map V.int) (by simp) (fun p σ H' => ∃ v3 v4 v5, σ = [some (.ref a), some (.ref C), some (.ref L), v3, v4, v5] ∧ Same H3 H' ∧ ∀ q, q < p → Sub (t.getD ((ms.map Int.toNat).getD q 0) []) (t.getD ((ms.map Int.toNat).getD (q + 1) 0) [])) ⟨none, none, none, rfl, Same.refl _, fun q hq => absurd hq (Nat.not_lt_zero _)⟩ (fun i σ H' _ ⟨_, _, _, _, s', _⟩ => ⟨.of (s' _ _ (s3 _ _ eL)), .of (s' _ _ eM)⟩) ?_ ?_
        · rintro p x y σ H4 H5 hx hy ⟨v3, v4, v5, rfl, s4, hb⟩ s5
          obtain ⟨zx, ex, rfl⟩ := int_at hx
          obtain ⟨zy, ey, rfl⟩ := int_at hy
          rw [List.getElem?_drop, Nat.add_comm] at ey
          obtain ⟨i, rfl, hi⟩ := hin zx (List.mem_of_getElem? ex)
          obtain ⟨k, rfl, hk⟩ := hin zy (List.mem_of_getElem? ey)
          obtain ⟨r, er⟩ := row_of hi
          obtain ⟨u, eu⟩ := row_of hk
          have hwr := tb.row er
          have hwu := tb.row eu
          have h5 : Same H H5 := h3.trans (s4.trans s5)
          have gx : ms.getD p 0 = (i : Int) := by rw [List.getD_eq_getElem?_getD, ex]; rfl
          have gy : ms.getD (p + 1) 0 = (k : Int) := by rw [List.getD_eq_getElem?_getD, ey]; rfl
          have ord : cntI r ≤ cntI u := by
            have := hord p (p + 1) (by omega) (List.getElem?_eq_some_iff.mp ey).1
            rw [gx, gy, Int.toNat_natCast, Int.toNat_natCast, counts_get er, counts_get eu] at this
            exact this
          have ordN : cnt r ≤ cnt u := by unfold cntI at ord; omega
          dsimp only [cxComp, cxOf, Cx.wish, tRet, tRetN, tSeq, tNext, tIfS, tDrop, tNot, tB, tTest, tAnd, tOr, tAndV, tOrV, tNotV, tIf, tCB, tCons, tNil, tVar, tC, tOp, tUn, tBM, tBM0, tCall, tLst, tTup, tAsg, tPar, tSl, tSl3, tNoPart, tPart, tChain, tComp, tCompS, iList, iRng1, iRng2, iEnum, iZip, rI, rI0, rU, rEq, rNe, rIxL, rIxT, rIxS, rIx, rSlL, rSlS, rCat, rEqL, rIsi, rAppend, rPop, rSetL, gSub, tDGet, tDIn, sDPut, tDisp, tPairs, iZipX, rIsiO, tFld, tMeth, tMake, sFld, tOrO, iEnumT, tMaxD, tSortK, tDNewK]
          refine ⟨_, rfl, _, rfl, a, _, _, _, rfl, rfl, (tb.same h5).at', atI_nat (tabV_get er), _, rfl, _, rfl, a, _, _, _, rfl, rfl, (tb.same h5).at', atI_nat (tabV_get eu), r, u, rfl, (by omega), (by have := tb.wl; omega), fun H6 s6 => ?_⟩
          have h6 := h5.trans s6
          cases ha : alone r u with
          | none =>
            rw [show aloneV r u = .non from by unfold aloneV; rw [ha]]
            refine ⟨_, rfl, rfl, _, rfl, iteFb rfl ⟨_, _, _, rfl, s4.trans (s5.trans s6), fun q hq => ?_⟩⟩
            rcases Nat.lt_succ_iff_lt_or_eq.mp hq with z | z
            · exact hb q z
            · have e1 : (ms.map Int.toNat).getD p 0 = i := by rw [List.getD_eq_getElem?_getD, List.getElem?_map, ex]; rfl
              have e2 : (ms.map Int.toNat).getD (p + 1) 0 = k := by rw [List.getD_eq_getElem?_getD, List.getElem?_map, ey]; rfl
              rw [z, e1, e2, show t.getD i [] = r from by simp [er], show t.getD k [] = u from by simp [eu]]
              exact alone_sub ha
          | some p1 =>
            rw [show aloneV r u = .int (p1 : Nat) from by unfold aloneV; rw [ha]]
            obtain ⟨a1, a2, a3⟩ := alone_some ha
            have hne : u ≠ r := fun e => by rw [e, a2] at a3; cases a3
            obtain ⟨p2, hp2⟩ := alone_ex (by omega) ordN hne
            obtain ⟨b1, b2, b3⟩ := alone_some hp2
            refine ⟨_, rfl, rfl, _, rfl, iteTb rfl ⟨_, rfl, _, rfl, _, rfl, _, rfl, _, rfl, a, _, _, _, rfl, rfl, (tb.same h6).at', atI_nat (tabV_get eu), _, rfl, _, rfl, a, _, _, _, rfl, rfl, (tb.same h6).at', atI_nat (tabV_get er), u, r, rfl, (by omega), (by have := tb.wl; omega), fun H7 s7 => ?_⟩⟩
            rw [show aloneV u r = .int (p2 : Nat) from by unfold aloneV; rw [hp2]]
            refine fun x dx hx hdx hne' => ⟨x, dx, [(i : Int), (p1 : Int), (k : Int), (p2 : Int)], rfl, rfl, upd_same, fun H8 kp is => ⟨rfl, ?_⟩⟩
            refine q1 x i p1 k p2 H8 (h6.trans (s7.trans (made_same hx hdx kp))) is ?_
            unfold crossT
            rw [atT_in er a1, atT_in eu b1, atT_in er (show p2 < r.length by omega), atT_in eu (show p1 < u.length by omega), a2, a3, b2, b3]
            rfl
        · rintro σ H4 ⟨v3, v4, v5, rfl, s4, hb⟩
          refine hnx _ _ ⟨h3.trans s4, chain_any (ms := ms.map Int.toNat) (fun i hi => ?_) fun p hp => hb p ?_⟩
          · exact List.mem_map.mpr ⟨(i : Int), hall i hi, by simp⟩
          · rw [List.length_map] at hp
            rw [List.length_map, List.length_drop]
            omega
    · rintro σ3 H3 ⟨s3, h⟩
      dsimp only [cxComp, cxOf, Cx.wish, tRet, tRetN, tSeq, tNext, tIfS, tDrop, tNot, tB, tTest, tAnd, tOr, tAndV, tOrV, tNotV, tIf, tCB, tCons, tNil, tVar, tC, tOp, tUn, tBM, tBM0, tCall, tLst, tTup, tAsg, tPar, tSl, tSl3, tNoPart, tPart, tChain, tComp, tCompS, iList, iRng1, iRng2, iEnum, iZip, rI, rI0, rU, rEq, rNe, rIxL, rIxT, rIxS, rIx, rSlL, rSlS, rCat, rEqL, rIsi, rAppend, rPop, rSetL, gSub, tDGet, tDIn, sDPut, tDisp, tPairs, iZipX, rIsiO, tFld, tMeth, tMake, sFld, tOrO, iEnumT, tMaxD, tSortK, tDNewK]
      exact q2 H3 s3 h
end
end Wa
namespace Wa
open PySem PySem.Spec PyProof.Rows L2
section
variable {P : Program} {w : World} {K : PySem.W.Frag} {mg : Str → Option Value} {base : Heap}
theorem S__law_table : FnScope ["_law_script", "_law_code", "_law_many", "_law_begins", "_law_ends", "_law_table_here", "_law_turn", "_law_row", "_law_at"] ["_law_script"] (defScope (top 40)) := ⟨rfl, rfl, rfl, by decide +kernel, rfl, by decide +kernel, by decide +kernel⟩
set_option maxHeartbeats 4000000 in
theorem ok__law_table {f : Addr} {fd : FuncData} (F : Fun K "_law_table" "_law_table" (top 40) f fd) (T : Nm mg) : FnOk P w K mg base CX0 1 f fd ["_law_script"] (spTable K) := by
  have S := S__law_table
  refine F.ok S (fun vs H Q E h => ?_) (fun cdv A outer s H vs Q E hr h => ?_)
  · obtain ⟨a, ns, rfl, _⟩ := h
    rfl
  · obtain ⟨a, ns, rfl, hS, hl, q⟩ := h
    refine ⟨_, (pss_cons (ps_asg (pe_tup (pa_cons (pe_callB (call_sum rfl) (by rfl) T.n_sum bt_sum (pa_cons (pv 0) pa_nil)) (pa_cons (pe_callB call_len_seq (by rfl) T.n_len bt_len (pa_cons (pv 0) pa_nil)) pa_nil))) (pg_tup (n := 2) rfl (pgs_cons (pg_name (i := 1) S.nd rfl (by first | exact Or.inl rfl | exact Or.inr rfl)) (pgs_cons (pg_name (i := 2) S.nd rfl (by first | exact Or.inl rfl | exact Or.inr rfl)) pgs_nil))))
      (pss_cons (ps_if (pt_cmpR op_eq (pe_op op_mod (pe_op op_fdiv (pv 1) pe_int) pe_int) pe_int (nomark _)) (pss_one (ps_ret (pe_comp (N := ["_law_cell", "_law_many"]) (lift := [none, some 2]) (.of (by kernel_rfl)) (pi_list (pv 0)) (fun b => (pg_name (i := 0) (show (["_law_cell", "_law_many"] : List Str).Nodup from by decide +kernel) rfl (by first | exact Or.inl rfl | exact Or.inr rfl))) (fun b => pifs_nil) (fun b => (pe_bm PySem.F.plainAttrs_str PySem.F.slot_str_join PySem.F.type_str_join mt_join pe_str (pa_cons (pe_comp (N := ["_law_at", "_law_cell"]) (lift := [none, some 0]) (.of (by kernel_rfl)) (pi_range1 (by rfl) T.n_range (pa_cons (pv 1) pa_nil)) (fun b => (pg_name (i := 0) (show (["_law_at", "_law_cell"] : List Str).Nodup from by decide +kernel) rfl (by first | exact Or.inl rfl | exact Or.inr rfl))) (fun b => pifs_nil) (fun b => (pe_ix ix_str pe_str (pe_op op_and (pe_op op_shr (pv 1) (pv 0)) pe_int) (fun _ _ => rfl)))) pa_nil)))))) pss_nil)
      (pss_cons (ps_set (i := 3) S.nd rfl (by first | exact Or.inl rfl | exact Or.inr rfl) (pe_comp (N := ["_law_at", "_law_cell", "_law_code"]) (lift := [none, none, some 1]) (.of (by kernel_rfl)) (pi_enum (by rfl) T.n_enumerate (pa_cons (pv 0) pa_nil)) (fun b => (pg_tup (n := 2) rfl (pgs_cons (pg_name (i := 0) (show (["_law_at", "_law_cell", "_law_code"] : List Str).Nodup from by decide +kernel) rfl (by first | exact Or.inl rfl | exact Or.inr rfl)) (pgs_cons (pg_name (i := 1) (show (["_law_at", "_law_cell", "_law_code"] : List Str).Nodup from by decide +kernel) rfl (by first | exact Or.inl rfl | exact Or.inr rfl)) pgs_nil)))) (fun b => pifs_nil) (fun b => (pe_ix ix_tup (pe_tup (pa_cons (pe_op op_mod (pv 1) pe_int) (pa_cons (pe_op op_mod (pv 1) pe_int) (pa_cons (pe_op op_add (pe_op op_mul (pe_op op_mod (pv 1) pe_int) pe_int) (pv 0)) pa_nil)))) (pe_op op_mod (pv 2) pe_int) (fun _ _ => rfl)))))
      (pss_cons (ps_comp (i := 4) S.nd rfl (by rfl) (N := ["_law_begin", "_law_cell", "_law_code"]) (lift := [none, none, some 1]) (.of (by kernel_rfl)) (pi_zip (by rfl) T.n_zip (pa_cons (pv 3) (pa_cons (pv 0) pa_nil))) (fun b => (pg_tup (n := 2) rfl (pgs_cons (pg_name (i := 0) (show (["_law_begin", "_law_cell", "_law_code"] : List Str).Nodup from by decide +kernel) rfl (by first | exact Or.inl rfl | exact Or.inr rfl)) (pgs_cons (pg_name (i := 1) (show (["_law_begin", "_law_cell", "_law_code"] : List Str).Nodup from by decide +kernel) rfl (by first | exact Or.inl rfl | exact Or.inr rfl)) pgs_nil)))) (fun b => pifs_nil) (fun b => (pe_op op_add (pv 0) (pe_ix ix_tup (pe_tup (pa_cons (pe_op op_mod (pe_op op_fdiv (pv 1) pe_int) pe_int) (pa_cons pe_int (pa_cons pe_int pa_nil)))) (pe_op op_mod (pv 2) pe_int) (fun _ _ => rfl)))))
      (pss_cons (ps_comp (i := 5) S.nd rfl (by rfl) (N := ["_law_end", "_law_begins"]) (lift := [none, some 3]) (.of (by kernel_rfl)) (pi_list (pv 4)) (fun b => (pg_name (i := 0) (show (["_law_end", "_law_begins"] : List Str).Nodup from by decide +kernel) rfl (by first | exact Or.inl rfl | exact Or.inr rfl))) (fun b => pifs_nil) (fun b => (pe_bm PySem.F.plainAttrs_str PySem.F.slot_str_join PySem.F.type_str_join mt_join pe_str (pa_cons (pe_comp (N := ["_law_begin", "_law_end"]) (lift := [none, some 0]) (.of (by kernel_rfl)) (pi_list (pv 1)) (fun b => (pg_name (i := 0) (show (["_law_begin", "_law_end"] : List Str).Nodup from by decide +kernel) rfl (by first | exact Or.inl rfl | exact Or.inr rfl))) (fun b => pifs_nil) (fun b => (pe_ifExp (pt_cmpR op_lt (pv 1) (pv 0) (nomark _)) pe_str pe_str))) pa_nil))))
      (pss_cons (ps_for PassesOwn.never rfl (pi_range1 (by rfl) T.n_range (pa_cons (pe_ifExp (pt_cmpR op_gt (pv 2) pe_int (nomark _)) (pe_ix ix_tup (pe_tup (pa_cons pe_int (pa_cons pe_int (pa_cons pe_int (pa_cons pe_int pa_nil))))) (pe_op op_mod (pe_op op_fdiv (pv 1) pe_int) pe_int) (fun _ _ => rfl)) pe_int) pa_nil)) (pg_name (i := 6) S.nd rfl (by first | exact Or.inl rfl | exact Or.inr rfl)) (pss_cons (ps_par (i := 7) (j := 8) rfl S.nd rfl rfl (by decide) (by rfl) (by rfl) (pa_cons (pe_op op_mod (pe_op op_add (pe_op op_fdiv (pv 1) pe_int) (pe_op op_mul pe_int (pv 6))) (pv 2)) (pa_cons (pe_op op_mod (pe_op op_add (pe_op op_fdiv (pv 1) pe_int) (pe_op op_mul pe_int (pv 6))) (pv 2)) pa_nil)) (by rfl))
      (pss_one (ps_asg (pe_op op_add_str (pe_op op_add_str (pe_slice sl_str (pe_ix ix_list (pv 5) (pv 7) (fun _ _ => rfl)) po_none (po_some (pv 8))) (pe_dget (hu_of hr) (pe_disp (pps_cons pe_str pe_str (pps_cons pe_str pe_str pps_nil)) rfl rfl (by simp) (by decide)) (pe_ix ix_str (pe_ix ix_list (pv 5) (pv 7) (fun _ _ => rfl)) (pv 8) (fun _ _ => rfl)) (fun _ _ => rfl))) (pe_slice sl_str (pe_ix ix_list (pv 5) (pv 7) (fun _ _ => rfl)) (po_some (pe_op op_add (pv 8) pe_int)) po_none)) (pg_sub (pv 5) (pv 7) set_list)))))
      (pss_one (ps_ret (pv 5))))))))), ?_⟩
    dsimp only [cxComp, cxOf, Cx.wish, tRet, tRetN, tSeq, tNext, tIfS, tDrop, tNot, tB, tTest, tAnd, tOr, tAndV, tOrV, tNotV, tIf, tCB, tCons, tNil, tVar, tC, tOp, tUn, tBM, tBM0, tCall, tLst, tTup, tAsg, tPar, tSl, tSl3, tNoPart, tPart, tChain, tComp, tCompS, iList, iRng1, iRng2, iEnum, iZip, rI, rI0, rU, rEq, rNe, rIxL, rIxT, rIxS, rIx, rSlL, rSlS, rCat, rEqL, rIsi, rAppend, rPop, rSetL, gSub, tDGet, tDIn, sDPut, tDisp, tPairs, iZipX, rIsiO, tFld, tMeth, tMake, sFld, tOrO, iEnumT, tMaxD, tSortK, tDNewK]
    refine ⟨_, rfl, a, ns, rfl, hS, _, rfl, a, _, rfl, .inl hS, two_le, fun p0 hp0 => gPair_of (.of upd_same) ?_⟩
    have s0 : Same H (upd H p0 (.tup [.int ns.sum, .int ((ns.map V.int).length : Nat)])) := (Same.refl H).upd hp0
    rw [List.length_map] at s0 ⊢
    have hS0 := s0.seq hS
    generalize upd H p0 (.tup [.int ns.sum, .int (ns.length : Nat)]) = H0 at s0 hS0 ⊢
    generalize ns.sum = code
    have hz : (ns.map V.int).length ≤ sizeLine := by rw [List.length_map]; exact Nat.le_trans hl (by decide)
    refine ⟨_, rfl, _, _, rfl, rfl, ⟨by decide, by decide⟩, _, _, rfl, rfl, (show (0 : Int) < 3 by decide), rfl, _, rfl, ite_cases (fun _ => ?_) fun _ => ?_⟩
    · -- the cells' bits
      refine ⟨_, rfl, a, rfl, ⟨_, hS0⟩, comp_list (fun x => match x with | .int z => some (.str (rowS ((List.range ns.length).map (bitB z)))) | _ => none) hS0 hz (fun x hx => ?_) fun D H1 s1 n1 e1 => ?_⟩
      · obtain ⟨z, _, rfl⟩ := List.mem_map.mp hx
        refine .map fun H1 k s1 hk => ?_
        refine ⟨rfl, _, rfl, _, rfl, (by omega), (by omega), ?_⟩
        rw [Int.toNat_natCast]
        refine comp_range (fun i => some (.str (oneS (bitB z i)))) (Nat.le_trans hl (by decide)) (fun i hi => .map fun H2 k2 s2 hk2 => ?_) fun D2 H2 s2 n2 e2 => ?_
        · refine ⟨_, rfl, _, rfl, _, _, rfl, rfl, (by omega), _, _, rfl, rfl, _, _, _, rfl, rfl, (by decide), mx_at _, ?_⟩
          have e : (0 + (i : Int)).toNat = i := by omega
          rw [e]
          exact hk2 _ (Same.refl _)
        · rw [fm_some] at e2
          have e3 : (List.range ns.length).map (fun i => V.str (oneS (bitB z i))) = (((List.range ns.length).map (bitB z)).map oneS).map V.str := by
            rw [List.map_map, List.map_map]
            rfl
          rw [e3] at e2
          refine ⟨_, D2, _, rfl, rfl, .of e2, ?_, ?_⟩
          · rw [ones_sum, List.length_map, List.length_map, List.length_range, e_is]
            show _ + _ * 0 ≤ _
            omega
          · rw [join_ones]
            exact hk H2 s2
      · refine q D H1 (ns.map fun z => (List.range ns.length).map (bitB z)) (s0.trans s1) (s0.free n1) ?_ (by rw [List.length_map]) ?_
        · rw [e1, List.filterMap_map]
          unfold tabV
          rw [List.map_map, ← fm_some]
          rfl
        · intro r hr'
          obtain ⟨z, _, rfl⟩ := List.mem_map.mp hr'
          simp
    · -- begins
      refine ⟨_, rfl, a, rfl, ⟨_, hS0⟩, comp_enum (fun i => some (.int (begI code (ns.getD i 0) i))) hS0 hz (fun i x hx => ?_) fun B H1 s1 n1 e1 => ?_⟩
      · obtain ⟨z, ez, rfl⟩ : ∃ z, ns[i]? = some z ∧ x = .int z := by
          rw [List.getElem?_map] at hx
          cases e : ns[i]? with
          | none => rw [e] at hx; cases hx
          | some z => rw [e] at hx; exact ⟨z, rfl, (Option.some.inj hx).symm⟩
        have ed : ns.getD i 0 = z := by simp [ez]
        rw [ed]
        refine .map fun H1 k s1 hk => ?_
        refine ⟨_, rfl, _, _, rfl, rfl, (show (0 : Int) < 17 by decide), _, rfl, _, _, rfl, rfl, (show (0 : Int) < 6 by decide), _, rfl, _, _, rfl, rfl, (show (0 : Int) < 97 by decide), _, _, rfl, rfl, .inr ⟨by decide, by decide⟩, _, rfl, _, _, rfl, rfl, three_le, fun p hp => ?_⟩
        refine ⟨_, rfl, _, _, rfl, rfl, (show (0 : Int) < 3 by decide), p, _, _, _, rfl, rfl, .of upd_same, at3i _ _ _ code, ?_⟩
        exact hk _ ((Same.refl _).upd hp)
      rw [fm_some] at e1
      have eB : (List.range (ns.map V.int).length).map (fun i => V.int (begI code (ns.getD i 0) i)) = (((List.range ns.length).map fun i => begI code (ns.getD i 0) i)).map V.int := by
        rw [List.length_map, List.map_map]
        rfl
      rw [eB] at e1
      have lB : ((List.range ns.length).map fun (i : Nat) => begI code (ns.getD i 0) i).length = ns.length := by simp
      generalize ((List.range ns.length).map fun (i : Nat) => begI code (ns.getD i 0) i) = bs at e1 lB
      clear eB
      have hS1 := s1.seq hS0
      -- ends
      refine ⟨_, rfl, _, rfl, B, a, rfl, ⟨_, .of e1⟩, ⟨_, hS1⟩, comp_zip (fun i => some (.int (bs.getD i 0 + addI3 code (ns.getD i 0)))) (.of e1) hS1 (by rw [List.length_map, List.length_map]; exact lB) (by rw [List.length_map, lB]; exact Nat.le_trans hl (by decide)) (fun i x y hx hy => ?_) fun C H2 s2 n2 e2 => ?_⟩
      · obtain ⟨b, eb, rfl⟩ := int_at hx
        obtain ⟨z, ez, rfl⟩ := int_at hy
        have ed : ns.getD i 0 = z := by simp [ez]
        have ed2 : bs.getD i 0 = b := by simp [eb]
        rw [ed, ed2]
        refine .map fun H2 k s2 hk => ?_
        refine ⟨_, rfl, _, rfl, _, _, rfl, rfl, ⟨by decide, by decide⟩, _, _, rfl, rfl, (show (0 : Int) < 6 by decide), three_le, fun p hp => ?_⟩
        refine ⟨_, rfl, _, _, rfl, rfl, (show (0 : Int) < 3 by decide), p, _, _, _, rfl, rfl, .of upd_same, at3i _ _ _ code, _, _, rfl, rfl, ?_⟩
        rw [if_zz]
        exact hk _ ((Same.refl _).upd hp)
      rw [fm_some] at e2
      have eC : (List.range (bs.map V.int).length).map (fun i => V.int (bs.getD i 0 + addI3 code (ns.getD i 0))) = (((List.range ns.length).map fun i => bs.getD i 0 + addI3 code (ns.getD i 0))).map V.int := by
        rw [List.length_map, List.map_map, lB]
        rfl
      rw [eC] at e2
      have lC : ((List.range ns.length).map fun (i : Nat) => bs.getD i 0 + addI3 code (ns.getD i 0)).length = ns.length := by simp
      generalize ((List.range ns.length).map fun (i : Nat) => bs.getD i 0 + addI3 code (ns.getD i 0)) = es at e2 lC
      clear eC
      have e1' := s2 B _ e1
      -- the table
      refine ⟨_, rfl, C, rfl, ⟨_, .of e2⟩, comp_list (fun x => match x with | .int z => some (.str (rowS (bs.map fun b => decide (z < b)))) | _ => none) (.of e2) (by rw [List.length_map, lC]; exact Nat.le_trans hl (by decide)) (fun x hx => ?_) fun D H3 s3 n3 e3 => ?_⟩
      · obtain ⟨z, _, rfl⟩ := List.mem_map.mp hx
        refine .map fun H3 k s3 hk => ?_
        have e1'' := s3 B _ e1'
        refine ⟨rfl, _, rfl, B, rfl, ⟨_, .of e1''⟩, comp_list (fun x => match x with | .int b => some (.str (oneS (decide (z < b)))) | _ => none) (.of e1'') (by rw [List.length_map, lB]; exact Nat.le_trans hl (by decide)) (fun x hx => ?_) fun D2 H4 s4 n4 e4 => ?_⟩
        · obtain ⟨b, _, rfl⟩ := List.mem_map.mp hx
          refine .map fun H4 k2 s4 hk2 => ?_
          refine ⟨_, rfl, _, rfl, _, _, rfl, rfl, _, rfl, ?_⟩
          have h2 := hk2 _ (Same.refl _)
          refine ite_cases (fun h => ?_) fun h => ?_
          · rw [h] at h2
            rw [x_is]
            exact h2
          · rw [h] at h2
            rw [m_is]
            exact h2
        · have e5 : (bs.map V.int).filterMap (fun x => match x with | .int b => some (V.str (oneS (decide (z < b)))) | _ => none) = ((bs.map fun b => decide (z < b)).map oneS).map V.str := by
            rw [List.filterMap_map, List.map_map, List.map_map, ← fm_some]
            rfl
          rw [e5] at e4
          refine ⟨_, D2, _, rfl, rfl, .of e4, ?_, ?_⟩
          · rw [ones_sum, List.length_map, List.length_map, e_is]
            show _ + _ * 0 ≤ _
            omega
          · rw [join_ones]
            exact hk H4 s4
      have e6 : (es.map V.int).filterMap (fun x => match x with | .int z => some (V.str (rowS (bs.map fun b => decide (z < b)))) | _ => none) = tabV (es.map fun z => bs.map fun b => decide (z < b)) := by
        unfold tabV
        rw [List.filterMap_map, List.map_map, ← fm_some]
        rfl
      rw [e6] at e3
      have tl : (es.map fun z => bs.map fun b => decide (z < b)).length = ns.length := by rw [List.length_map, lC]
      have tw : Wid (es.map fun z => bs.map fun b => decide (z < b)) ns.length := by
        intro r hr'
        obtain ⟨z, _, rfl⟩ := List.mem_map.mp hr'
        rw [List.length_map, lB]
      generalize (es.map fun z => bs.map fun b => decide (z < b)) = t at e3 tl tw
      clear e6
      have sH : Same H H3 := s0.trans (s1.trans (s2.trans s3))
      have nD : H D = none := s0.free (s1.free (s2.free n3))
      -- the turns
      by_cases hn : 0 < ns.length
      · dsimp only [tFor_eq, cxComp, cxOf, Cx.wish, tRet, tRetN, tSeq, tNext, tIfS, tDrop, tNot, tB, tTest, tAnd, tOr, tAndV, tOrV, tNotV, tIf, tCB, tCons, tNil, tVar, tC, tOp, tUn, tBM, tBM0, tCall, tLst, tTup, tAsg, tPar, tSl, tSl3, tNoPart, tPart, tChain, tComp, tCompS, iList, iRng1, iRng2, iEnum, iZip, rI, rI0, rU, rEq, rNe, rIxL, rIxT, rIxS, rIx, rSlL, rSlS, rCat, rEqL, rIsi, rAppend, rPop, rSetL, gSub, tDGet, tDIn, sDPut, tDisp, tPairs, iZipX, rIsiO, tFld, tMeth, tMake, sFld, tOrO, iEnumT, tMaxD, tSortK, tDNewK]
        refine ⟨_, rfl, _, _, rfl, rfl, _, rfl, iteTb (by simpa using hn) ?_⟩
        refine ⟨four_le, fun p hp => ⟨_, rfl, _, _, rfl, rfl, ⟨by decide, by decide⟩, _, _, rfl, rfl, (show (0 : Int) < 4 by decide), p, _, _, _, rfl, rfl, .of upd_same, at4i _ _ _ _ _, _, rfl, ?_, ?_, ?_⟩⟩
        · rcases four (code / 3) with h | h | h | h <;> rw [h] <;> decide
        · rcases four (code / 3) with h | h | h | h <;> rw [h] <;> decide
        have s3' : Same H3 (upd H3 p (.tup [.int 0, .int 1, .int 0, .int 2])) := (Same.refl H3).upd hp
        refine for_rangeW (fun i σ H' => ∃ (t : Tab) (v6 v7 v8 : Option V), σ = [some (.ref a), some (.int code), some (.int (ns.length : Nat)), some (.ref B), some (.ref C), some (.ref D), v6, v7, v8] ∧ Same H H' ∧ H' D = some (.lst (tabV t)) ∧ t.length = ns.length ∧ Wid t ns.length)
          ⟨t, none, none, none, rfl, sH.trans s3', s3' D _ e3, tl, tw⟩ ?_ ?_
        · rintro i σ H5 hi ⟨t, v6, v7, v8, rfl, s5, e5, tl, tw⟩
          dsimp only [gName]
          dsimp only [tFor_eq, cxComp, cxOf, Cx.wish, tRet, tRetN, tSeq, tNext, tIfS, tDrop, tNot, tB, tTest, tAnd, tOr, tAndV, tOrV, tNotV, tIf, tCB, tCons, tNil, tVar, tC, tOp, tUn, tBM, tBM0, tCall, tLst, tTup, tAsg, tPar, tSl, tSl3, tNoPart, tPart, tChain, tComp, tCompS, iList, iRng1, iRng2, iEnum, iZip, rI, rI0, rU, rEq, rNe, rIxL, rIxT, rIxS, rIx, rSlL, rSlS, rCat, rEqL, rIsi, rAppend, rPop, rSetL, gSub, tDGet, tDIn, sDPut, tDisp, tPairs, iZipX, rIsiO, tFld, tMeth, tMake, sFld, tOrO, iEnumT, tMaxD, tSortK, tDNewK]
          have hn' : (0 : Int) < ((ns.length : Nat) : Int) := by omega
          refine ⟨_, rfl, _, _, rfl, rfl, ⟨by decide, by decide⟩, _, rfl, _, _, rfl, rfl, .inl ⟨by decide, by decide⟩, _, _, rfl, rfl, _, rfl, _, _, rfl, rfl, hn', _, rfl, _, _, rfl, rfl, ⟨by decide, by decide⟩, _, rfl, _, _, rfl, rfl, .inl ⟨by decide, by decide⟩, _, _, rfl, rfl, _, rfl, _, _, rfl, rfl, hn', _, _, rfl, ?_⟩
          obtain ⟨x, ex, hx⟩ : ∃ x : Nat, (code / 12 + 5 * (0 + (i : Int))) % (ns.length : Nat) = (x : Int) ∧ x < ns.length := by
            have h1 := Int.emod_nonneg (code / 12 + 5 * (0 + (i : Int))) (show ((ns.length : Nat) : Int) ≠ 0 by omega)
            have h2 := Int.emod_lt_of_pos (code / 12 + 5 * (0 + (i : Int))) hn'
            exact ⟨((code / 12 + 5 * (0 + (i : Int))) % (ns.length : Nat)).toNat, by omega, by omega⟩
          obtain ⟨y, ey, hy⟩ : ∃ y : Nat, (code / 7 + 3 * (0 + (i : Int))) % (ns.length : Nat) = (y : Int) ∧ y < ns.length := by
            have h1 := Int.emod_nonneg (code / 7 + 3 * (0 + (i : Int))) (show ((ns.length : Nat) : Int) ≠ 0 by omega)
            have h2 := Int.emod_lt_of_pos (code / 7 + 3 * (0 + (i : Int))) hn'
            exact ⟨((code / 7 + 3 * (0 + (i : Int))) % (ns.length : Nat)).toNat, by omega, by omega⟩
          rw [ex, ey]
          obtain ⟨r, er⟩ : ∃ r, t[x]? = some r := ⟨_, List.getElem?_eq_getElem (by omega)⟩
          have hw : r.length = ns.length := tw r (List.mem_of_getElem? er)
          have hyr : y < r.length := by omega
          have rs : (rowS r).length ≤ sizeLine := row_size (by omega)
          have at1 : atI (tabV t) (x : Int) = some (.str (rowS r)) := atI_nat (tabV_get er)
          -- the row's part ahead
          refine ⟨_, rfl, _, rfl, D, _, _, _, rfl, rfl, .of e5, at1, _, rfl, _, rfl, _, rfl, rs, ?_⟩
          -- the sign turned
          intro p2 hp2
          have hDp : D ≠ p2 := ne_of_none e5 hp2
          refine ⟨upd_same, [(Sum.inr (Str.ofString "x"), .str (Str.ofString "-")), (Sum.inr (Str.ofString "-"), .str (Str.ofString "x"))], rfl, by decide, ?_⟩
          rw [upd_upd]
          have e6 : ∀ o, (upd H5 p2 o) D = some (.lst (tabV t)) := fun o => by rw [upd_ne hDp]; exact e5
          refine ⟨_, rfl, _, rfl, D, _, _, _, rfl, rfl, .of (e6 _), at1, _, rfl, _, _, _, rfl, rfl, rs, row_at hyr, p2, .str (oneS (!(r.getD y false))), rfl, ?_, ?_⟩
          · have := DGet.k (k := Sum.inr ⟨#[sgn (r.getD y false)]⟩) (upd_same (H := H5) (a := p2) (o := .dK (mergeK [] [(Sum.inr (Str.ofString "x"), .str (Str.ofString "-")), (Sum.inr (Str.ofString "-"), .str (Str.ofString "x"))])))
            have e7 : valV (mergeK [] [(Sum.inr (Str.ofString "x"), .str (Str.ofString "-")), (Sum.inr (Str.ofString "-"), .str (Str.ofString "x"))]) (Sum.inr ⟨#[sgn (r.getD y false)]⟩) = some (.str (oneS (!(r.getD y false)))) := by
              rw [x_is, m_is]
              cases r.getD y false <;> rfl
            rw [e7] at this
            exact this
          -- put together
          have l1 := cutS_len (rowS r) none (some (y : Int))
          have l2 := cutS_len (rowS r) (some ((y : Int) + 1)) none
          have l3 : (rowS r).length = ns.length := by rw [rowS_len, hw]
          have l4 : (oneS (!(r.getD y false))).length = 1 := rfl
          refine ⟨_, _, rfl, rfl, by rw [l4]; exact Nat.le_trans (by omega) (show 200 ≤ sizeLine by decide), ?_⟩
          refine ⟨_, rfl, _, rfl, D, _, _, _, rfl, rfl, .of (e6 _), at1, _, rfl, _, _, rfl, rfl, _, rfl, _, rfl, rs, _, _, rfl, rfl, ?_, ?_⟩
          · rw [Str.length_append, l4]
            exact Nat.le_trans (by omega) (show 200 ≤ sizeLine by decide)
          rw [flip_row hyr]
          refine ⟨_, rfl, _, rfl, D, _, _, x, rfl, rfl, e6 _, ixN_nat (by rw [tabV_len]; omega), ?_⟩
          refine ⟨t.set x (r.set y (!(r.getD y false))), _, _, _, rfl, ?_, ?_, by rw [List.length_set]; exact tl, set_wid tw (by rw [List.length_set]; exact hw)⟩
          · intro b o hb
            have n1 : b ≠ D := fun z => by rw [z] at hb; rw [nD] at hb; cases hb
            rw [upd_ne n1, upd_ne (ne_of_none (s5 b o hb) hp2)]
            exact s5 b o hb
          · rw [upd_same]
            unfold tabV
            rw [List.map_set]
        · rintro σ H5 ⟨t, v6, v7, v8, rfl, s5, e5, tl, tw⟩
          exact ⟨_, rfl, q D H5 t s5 nD e5 tl tw⟩
      · dsimp only [tFor_eq, cxComp, cxOf, Cx.wish, tRet, tRetN, tSeq, tNext, tIfS, tDrop, tNot, tB, tTest, tAnd, tOr, tAndV, tOrV, tNotV, tIf, tCB, tCons, tNil, tVar, tC, tOp, tUn, tBM, tBM0, tCall, tLst, tTup, tAsg, tPar, tSl, tSl3, tNoPart, tPart, tChain, tComp, tCompS, iList, iRng1, iRng2, iEnum, iZip, rI, rI0, rU, rEq, rNe, rIxL, rIxT, rIxS, rIx, rSlL, rSlS, rCat, rEqL, rIsi, rAppend, rPop, rSetL, gSub, tDGet, tDIn, sDPut, tDisp, tPairs, iZipX, rIsiO, tFld, tMeth, tMake, sFld, tOrO, iEnumT, tMaxD, tSortK, tDNewK]
        have h0 : ns.length = 0 := by omega
        refine ⟨_, rfl, _, _, rfl, rfl, _, rfl, iteFb (by rw [h0]; rfl) ⟨_, rfl, by decide, by decide, for_rangeW (fun _ σ H' => σ[5]? = some (some (.ref D)) ∧ H' = H3) ⟨rfl, rfl⟩ (fun i σ H hi => absurd hi (by simp)) ?_⟩⟩
        rintro σ H5 ⟨e, rfl⟩
        exact ⟨_, e, q D _ t sH nD e3 tl tw⟩
theorem S__law_turned : FnScope ["_law_table_here"] ["_law_table_here"] (defScope (top 41)) := ⟨rfl, rfl, rfl, by decide +kernel, rfl, by decide +kernel, by decide +kernel⟩
theorem ok__law_turned {f : Addr} {fd : FuncData} (F : Fun K "_law_turned" "_law_turned" (top 41) f fd) (T : Nm mg) : FnOk P w K mg base CX0 1 f fd ["_law_table_here"] (spTurned K) := by
  have S := S__law_turned
  refine F.ok S (fun vs H Q E h => ?_) (fun cdv A outer s H vs Q E hr h => ?_)
  · obtain ⟨a, t, w, rfl, _⟩ := h
    rfl
  · obtain ⟨a, t, n, rfl, tb, q⟩ := h
    refine ⟨_, (pss_cons (ps_if (pt_cmpR (op_eqL hr.units0) (pv 0) (pe_lst pa_nil) (nomark _)) (pss_one (ps_ret (pe_lst pa_nil))) pss_nil)
      (pss_one (ps_ret (pe_comp (N := ["_law_at", "_law_table_here"]) (lift := [none, some 0]) (.of (by kernel_rfl)) (pi_range1 (by rfl) T.n_range (pa_cons (pe_callB call_len_str (by rfl) T.n_len bt_len (pa_cons (pe_ix ix_list (pv 0) pe_int (fun _ _ => rfl)) pa_nil)) pa_nil)) (fun b => (pg_name (i := 0) (show (["_law_at", "_law_table_here"] : List Str).Nodup from by decide +kernel) rfl (by first | exact Or.inl rfl | exact Or.inr rfl))) (fun b => pifs_nil) (fun b => (pe_bm PySem.F.plainAttrs_str PySem.F.slot_str_join PySem.F.type_str_join mt_join pe_str (pa_cons (pe_comp (N := ["_law_row", "_law_at"]) (lift := [none, some 0]) (.of (by kernel_rfl)) (pi_list (pv 1)) (fun b => (pg_name (i := 0) (show (["_law_row", "_law_at"] : List Str).Nodup from by decide +kernel) rfl (by first | exact Or.inl rfl | exact Or.inr rfl))) (fun b => pifs_nil) (fun b => (pe_ix ix_str (pv 0) (pv 1) (fun _ _ => rfl)))) pa_nil))))))), ?_⟩
    dsimp only [cxComp, cxOf, Cx.wish, tRet, tRetN, tSeq, tNext, tIfS, tDrop, tNot, tB, tTest, tAnd, tOr, tAndV, tOrV, tNotV, tIf, tCB, tCons, tNil, tVar, tC, tOp, tUn, tBM, tBM0, tCall, tLst, tTup, tAsg, tPar, tSl, tSl3, tNoPart, tPart, tChain, tComp, tCompS, iList, iRng1, iRng2, iEnum, iZip, rI, rI0, rU, rEq, rNe, rIxL, rIxT, rIxS, rIx, rSlL, rSlS, rCat, rEqL, rIsi, rAppend, rPop, rSetL, gSub, tDGet, tDIn, sDPut, tDisp, tPairs, iZipX, rIsiO, tFld, tMeth, tMake, sFld, tOrO, iEnumT, tMaxD, tSortK, tDNewK]
    refine ⟨_, rfl, Nat.zero_le _, fun p hp => ⟨a, p, _, _, rfl, rfl, ((Same.refl H).upd hp).seq tb.at', .of upd_same, tabV_flat t, rfl, _, rfl, ?_⟩⟩
    have s0 : Same H (upd H p (.lst [])) := (Same.refl H).upd hp
    cases t with
    | nil =>
      refine iteTb rfl ⟨Nat.zero_le _, fun D hD => ?_⟩
      exact q D _ (s0.upd hD) (s0.free hD) upd_same
    | cons r t =>
      refine iteFb rfl ?_
      have tb1 := tb.same s0
      have hw := tb.wid r List.mem_cons_self
      have h100 := tb.wl
      refine ⟨_, rfl, a, _, _, _, rfl, rfl, tb1.at', atI_nat (j := 0) (tabV_get (i := 0) rfl), _, rfl, row_size (by omega), _, rfl, (by omega), (by rw [rowS_len]; omega), ?_⟩
      rw [Int.toNat_natCast, rowS_len]
      refine comp_range (fun i => some (.str (rowS (colT (r :: t) i)))) (by rw [hw]; exact Nat.le_trans h100 (by decide)) (fun i hi => .map fun H2 k s2 hk => ?_) fun D H2 s2 n2 e2 => ?_
      · have tb2 := tb1.same s2
        have hi' : i < n := by omega
        refine ⟨rfl, _, rfl, a, rfl, ⟨_, tb2.at'⟩, comp_list (fun x => match x with | .str z => some (.str ⟨#[(z.cps.toList[i]?).getD 0]⟩) | _ => none) tb2.at' tb2.size (fun x hx => ?_) fun D H1 s1 n1 e1 => ?_⟩
        · obtain ⟨r', hr', rfl⟩ := List.mem_map.mp hx
          have hw' := tb.wid r' hr'
          refine .map fun H1 k s1 hk => ?_
          refine ⟨_, rfl, _, rfl, _, _, _, rfl, rfl, row_size (by omega), (by rw [Int.zero_add]; exact row_at (by omega)), ?_⟩
          have e : ((rowS r').cps.toList[i]?).getD 0 = sgn (r'.getD i false) := by
            rw [rowS_list, List.getElem?_map]
            have : i < r'.length := by omega
            simp [this]
          have h2 := hk _ (Same.refl _)
          rw [e] at h2
          exact h2
        have e2 : (tabV (r :: t)).filterMap (fun x => match x with | .str z => some (.str ⟨#[(z.cps.toList[i]?).getD 0]⟩) | _ => none) = ((colT (r :: t) i).map oneS).map V.str := by
          unfold tabV colT
          rw [List.filterMap_map, List.map_map, List.map_map]
          rw [← fm_some]
          apply fm_congr
          intro r' hr'
          have hw' := tb.wid r' hr'
          have : i < r'.length := by omega
          have e : ((rowS r').cps.toList[i]?).getD 0 = sgn (r'.getD i false) := by
            rw [rowS_list, List.getElem?_map]
            simp [this]
          show some (V.str ⟨#[((rowS r').cps.toList[i]?).getD 0]⟩) = some (V.str (oneS (r'.getD i false)))
          rw [e]
          rfl
        rw [e2] at e1
        refine ⟨_, D, _, rfl, rfl, .of e1, ?_, ?_⟩
        · rw [ones_sum, List.length_map]
          have : (colT (r :: t) i).length = (r :: t).length := by unfold colT; rw [List.length_map]
          have h3 := tb.len
          rw [e_is]
          show _ + _ * 0 ≤ _
          omega
        · rw [join_ones]
          exact hk H1 s1
      · refine q D H2 (s0.trans s2) (s0.free n2) ?_
        rw [e2, fm_some]
        unfold tabV turnT colT
        rw [List.map_map]
        rfl
theorem S__law_numbers : FnScope ["_law_found", "_law_many"] ["_law_found", "_law_many"] (defScope (top 42)) := ⟨rfl, rfl, rfl, by decide +kernel, rfl, by decide +kernel, by decide +kernel⟩
theorem ok__law_numbers {f : Addr} {fd : FuncData} (F : Fun K "_law_numbers" "_law_numbers" (top 42) f fd) (T : Nm mg) : FnOk P w K mg base CX0 1 f fd ["_law_found", "_law_many"] (spNumbers K) := by
  have S := S__law_numbers
  refine F.ok S (fun vs H Q E h => ?_) (fun cdv A outer s H vs Q E hr h => ?_)
  · obtain ⟨a, ns, m, rfl, _⟩ := h
    rfl
  · obtain ⟨a, ns, m, rfl, hS, hl, q⟩ := h
    refine ⟨_, (pss_cons (ps_if (PW.pt (pw_or (pt_not (pt_val (pe_callB call_isi (by rfl) T.n_isinstance bt_isinstance (pa_cons (pv 0) (pa_cons (pe_bltn (v := .ty "list") (by rfl) T.n_list bt_list rfl) pa_nil))))) (pw_or1 (pt_cmpR op_ne (pe_callB call_len_seq (by rfl) T.n_len bt_len (pa_cons (pv 0) pa_nil)) (pv 1) (nomark _))))) (pss_one (ps_ret pe_bl)) pss_nil)
      (pss_one (ps_ret (pe_callB (call_all rfl) (by rfl) T.n_all bt_all (pa_cons (pe_comp (N := ["_law_one"]) (lift := [none]) (.of (by kernel_rfl)) (pi_list (pv 0)) (fun b => (pg_name (i := 0) (show (["_law_one"] : List Str).Nodup from by decide +kernel) rfl (by first | exact Or.inl rfl | exact Or.inr rfl))) (fun b => pifs_nil) (fun b => (pe_and (pe_callB call_isi (by rfl) T.n_isinstance bt_isinstance (pa_cons (pv 0) (pa_cons (pe_bltn (v := .ty "int") (by rfl) T.n_int bt_int rfl) pa_nil))) (pe_one (pe_not (pe_callB call_isi (by rfl) T.n_isinstance bt_isinstance (pa_cons (pv 0) (pa_cons (pe_bltn (v := .ty "bool") (by rfl) T.n_bool bt_bool rfl) pa_nil)))))))) pa_nil))))), ?_⟩
    dsimp only [cxComp, cxOf, Cx.wish, tRet, tRetN, tSeq, tNext, tIfS, tDrop, tNot, tB, tTest, tAnd, tOr, tAndV, tOrV, tNotV, tIf, tCB, tCons, tNil, tVar, tC, tOp, tUn, tBM, tBM0, tCall, tLst, tTup, tAsg, tPar, tSl, tSl3, tNoPart, tPart, tChain, tComp, tCompS, iList, iRng1, iRng2, iEnum, iZip, rI, rI0, rU, rEq, rNe, rIxL, rIxT, rIxS, rIx, rSlL, rSlS, rCat, rEqL, rIsi, rAppend, rPop, rSetL, gSub, tDGet, tDIn, sDPut, tDisp, tPairs, iZipX, rIsiO, tFld, tMeth, tMake, sFld, tOrO, iEnumT, tMaxD, tSortK, tDNewK]
    refine ⟨_, rfl, _, _, _, rfl, .inl ⟨rfl, _, hS⟩, .inl rfl, _, rfl, iteFb rfl ?_⟩
    refine ⟨_, rfl, a, _, rfl, .inl hS, _, rfl, rfl, _, rfl, ?_⟩
    rw [List.length_map]
    by_cases hm : (ns.length : Int) = m
    · refine iteFb (by rw [hm]; simp) ?_
      have hz : (ns.map V.int).length ≤ sizeLine := by rw [List.length_map]; exact Nat.le_trans hl (by decide)
      refine ⟨_, rfl, a, rfl, ⟨_, hS⟩, comp_list (fun _ => some (.bl true)) hS hz (fun x hx => ?_) fun D H1 s1 n1 e1 => ?_⟩
      · obtain ⟨z, _, rfl⟩ := List.mem_map.mp hx
        refine .map fun H1 k s1 hk => ?_
        exact ⟨_, rfl, _, _, _, rfl, rfl, .inr (.inr (.inl rfl)), _, rfl, iteTb rfl ⟨_, rfl, _, _, _, rfl, rfl, .inr (.inr (.inr rfl)), _, rfl, hk _ (Same.refl _)⟩⟩
      rw [fm_some] at e1
      have eb : (ns.map V.int).map (fun _ => V.bl true) = (List.replicate ns.length true).map V.bl := by
        rw [List.map_const', List.length_map, List.map_replicate]
      rw [eb] at e1
      refine ⟨D, _, rfl, .of e1, ?_⟩
      have q1 := q H1 s1
      have e : (List.replicate ns.length true).all id = true := by simp
      rw [e]
      rw [decide_eq_true hm] at q1
      exact q1
    · refine iteTb (by simp [hm]) ?_
      have q1 := q H (Same.refl H)
      rw [decide_eq_false hm] at q1
      exact q1
end
end Wa
namespace Wa
open PySem PySem.Spec PyProof.Rows L2
/-- one row: it has a column just where its number is greater -/
def rowT (r : List Bool) (m : Int) (ms : List Int) : Bool := (List.range ms.length).all fun j => r.getD j false == decide (m > ms.getD j 0)
def stepsT (t : Tab) (ns ms : List Int) : Bool := (ns.length == t.length) && (ms.length == widT t) && (List.range t.length).all fun i => rowT (t.getD i []) (ns.getD i 0) ms
def spSteps (K : PySem.W.Frag) : Sp := fun vs H Q _ => ∃ a t w A ns B ms, vs = [.ref a, .ref A, .ref B] ∧ Tb K H a t w ∧ SqL K H A (ns.map V.int) ∧ SqL K H B (ms.map V.int) ∧ ∀ H', Same H H' → Q (.bl (stepsT t ns ms)) H'
section
variable {P : Program} {w : World} {K : PySem.W.Frag} {mg : Str → Option Value} {base : Heap}
theorem S__law_steps : FnScope ["_law_table_here", "_law_rows", "_law_columns", "_law_row", "_law_mine"] ["_law_table_here", "_law_rows", "_law_columns"] (defScope (top 46)) := ⟨rfl, rfl, rfl, by decide +kernel, rfl, by decide +kernel, by decide +kernel⟩
set_option maxHeartbeats 4000000 in
theorem ok__law_steps {f : Addr} {fd : FuncData} (F : Fun K "_law_steps" "_law_steps" (top 46) f fd) (T : Nm mg) : FnOk P w K mg base CX0 1 f fd ["_law_table_here", "_law_rows", "_law_columns"] (spSteps K) := by
  have S := S__law_steps
  refine F.ok S (fun vs H Q E h => ?_) (fun cdv A outer s H vs Q E hr h => ?_)
  · obtain ⟨a, t, w, A, ns, B, ms, rfl, _⟩ := h
    rfl
  · obtain ⟨a, t, n, A, ns, B, ms, rfl, tb, hA, hB, q⟩ := h
    refine ⟨_, (pss_cons (ps_if (PW.pt (pw_or (pt_cmpR op_ne (pe_callB call_len_seq (by rfl) T.n_len bt_len (pa_cons (pv 1) pa_nil)) (pe_callB call_len_seq (by rfl) T.n_len bt_len (pa_cons (pv 0) pa_nil)) (nomark _)) (pw_or1 (pt_cmpR op_ne (pe_callB call_len_seq (by rfl) T.n_len bt_len (pa_cons (pv 2) pa_nil)) (pe_ifExp (pt_cmpR (op_neL hr.units0) (pv 0) (pe_lst pa_nil) (nomark _)) (pe_callB call_len_str (by rfl) T.n_len bt_len (pa_cons (pe_ix ix_list (pv 0) pe_int (fun _ _ => rfl)) pa_nil)) pe_int) (nomark _))))) (pss_one (ps_ret pe_bl)) pss_nil)
      (pss_cons (ps_for PassesOwn.never rfl (pi_zip (by rfl) T.n_zip (pa_cons (pv 0) (pa_cons (pv 1) pa_nil))) (pg_tup (n := 2) rfl (pgs_cons (pg_name (i := 3) S.nd rfl (by first | exact Or.inl rfl | exact Or.inr rfl)) (pgs_cons (pg_name (i := 4) S.nd rfl (by first | exact Or.inl rfl | exact Or.inr rfl)) pgs_nil))) (pss_one (ps_if (pt_val (pe_callB (call_any rfl) (by rfl) T.n_any bt_any (pa_cons (pe_comp (N := ["_law_sign", "_law_theirs", "_law_mine"]) (lift := [none, none, some 4]) (.of (by kernel_rfl)) (pi_zipX (by rfl) T.n_zip (pa_cons (pv 3) (pa_cons (pv 2) pa_nil))) (fun b => (pg_tup (n := 2) rfl (pgs_cons (pg_name (i := 0) (show (["_law_sign", "_law_theirs", "_law_mine"] : List Str).Nodup from by decide +kernel) rfl (by first | exact Or.inl rfl | exact Or.inr rfl)) (pgs_cons (pg_name (i := 1) (show (["_law_sign", "_law_theirs", "_law_mine"] : List Str).Nodup from by decide +kernel) rfl (by first | exact Or.inl rfl | exact Or.inr rfl)) pgs_nil)))) (fun b => pifs_nil) (fun b => (pe_cmpR op_ne (pe_cmpR op_eq (pv 0) pe_str (nomark _)) (pe_cmpR op_gt (pv 2) (pv 1) (nomark _)) (nomark _)))) pa_nil))) (pss_one (ps_ret pe_bl)) pss_nil)))
      (pss_one (ps_ret pe_bl)))), ?_⟩
    refine seq_cut (fun σ' H' => σ' = [some (.ref a), some (.ref A), some (.ref B), none, none] ∧ Same H H' ∧ ns.length = t.length ∧ ms.length = widT t) (fun nx' hnx => ?_) ?_
    · dsimp only [cxComp, cxOf, Cx.wish, tRet, tRetN, tSeq, tNext, tIfS, tDrop, tNot, tB, tTest, tAnd, tOr, tAndV, tOrV, tNotV, tIf, tCB, tCons, tNil, tVar, tC, tOp, tUn, tBM, tBM0, tCall, tLst, tTup, tAsg, tPar, tSl, tSl3, tNoPart, tPart, tChain, tComp, tCompS, iList, iRng1, iRng2, iEnum, iZip, rI, rI0, rU, rEq, rNe, rIxL, rIxT, rIxS, rIx, rSlL, rSlS, rCat, rEqL, rIsi, rAppend, rPop, rSetL, gSub, tDGet, tDIn, sDPut, tDisp, tPairs, iZipX, rIsiO, tFld, tMeth, tMake, sFld, tOrO, iEnumT, tMaxD, tSortK, tDNewK]
      refine ⟨_, rfl, A, _, rfl, .inl hA, _, rfl, a, _, rfl, .inl tb.at', rfl, _, rfl, ?_⟩
      rw [List.length_map, tabV_len]
      by_cases e1 : ns.length = t.length
      · refine iteFb (by rw [e1]; simp) ⟨_, rfl, B, _, rfl, .inl hB, _, rfl, Nat.zero_le _, fun p hp => ⟨a, p, _, _, rfl, rfl, ((Same.refl H).upd hp).seq tb.at', .of upd_same, tabV_flat t, rfl, _, rfl, ?_⟩⟩
        have s9 : Same H (upd H p (.lst [])) := (Same.refl H).upd hp
        generalize upd H p (.lst []) = H9 at s9 ⊢
        rw [List.length_map]
        have fin : ∀ (Hx : Hp) (m : Nat), m = widT t → Same H Hx → scal (V.int (ms.length : Nat)) (V.int (m : Nat)) = true ∧ ∃ k, (V.bl !decide (V.int (ms.length : Nat) = V.int (m : Nat))) = V.bl k ∧ if k = true then Q (V.bl false) Hx else nx' [some (.ref a), some (.ref A), some (.ref B), none, none] Hx := fun Hx m em sx => by
          refine ⟨rfl, _, rfl, ?_⟩
          by_cases e2 : ms.length = widT t
          · exact iteFb (by rw [e2, em]; simp) (hnx _ _ ⟨rfl, sx, e1, e2⟩)
          · refine iteTb (by simp; omega) ?_
            have : stepsT t ns ms = false := by
              unfold stepsT
              simp [e2]
            rw [← this]
            exact q _ sx
        cases t with
        | nil => exact iteFb rfl (fin H9 0 rfl s9)
        | cons r0 t0 =>
          have h0 := tb.wid r0 List.mem_cons_self
          refine iteTb (by rw [eqVs_len (by rw [tabV_len]; simp)]; rfl) ⟨_, rfl, a, _, _, _, rfl, rfl, (tb.same s9).at', atI_nat (j := 0) (tabV_get (i := 0) rfl), _, rfl, row_size (by rw [h0]; exact tb.wl), ?_⟩
          rw [rowS_len]
          exact fin H9 r0.length rfl s9
      · refine iteTb (by simp; omega) (iteTb rfl ?_)
        have : stepsT t ns ms = false := by
          unfold stepsT
          simp [e1]
        rw [← this]
        exact q _ (Same.refl _)
    rintro σ1 H1 ⟨rfl, s1, e1, e2⟩
    refine seq_cut (fun σ' H' => Same H H' ∧ stepsT t ns ms = true) (fun nx' hnx => ?_) ?_
    · refine for_cut (fun J H2 => J = Itz K a A ∧ Same H1 H2) (fun R hR => ?_) ?_
      · dsimp only [cxComp, cxOf, Cx.wish, tRet, tRetN, tSeq, tNext, tIfS, tDrop, tNot, tB, tTest, tAnd, tOr, tAndV, tOrV, tNotV, tIf, tCB, tCons, tNil, tVar, tC, tOp, tUn, tBM, tBM0, tCall, tLst, tTup, tAsg, tPar, tSl, tSl3, tNoPart, tPart, tChain, tComp, tCompS, iList, iRng1, iRng2, iEnum, iZip, rI, rI0, rU, rEq, rNe, rIxL, rIxT, rIxS, rIx, rSlL, rSlS, rCat, rEqL, rIsi, rAppend, rPop, rSetL, gSub, tDGet, tDIn, sDPut, tDisp, tPairs, iZipX, rIsiO, tFld, tMeth, tMake, sFld, tOrO, iEnumT, tMaxD, tSortK, tDNewK]
        exact ⟨_, rfl, _, rfl, a, A, rfl, ⟨_, s1.seq tb.at'⟩, ⟨_, s1.seq hA⟩, hR _ _ ⟨rfl, Same.refl _⟩⟩
      · rintro J H2 ⟨rfl, s2⟩
        refine for_zipW (xs := tabV t) (ys := ns.map V.int) (by rw [tabV_len, List.length_map, e1]) (fun i σ H' => ∃ v3 v4, σ = [some (.ref a), some (.ref A), some (.ref B), v3, v4] ∧ Same H2 H' ∧ ∀ k, k < i → rowT (t.getD k []) (ns.getD k 0) ms = true) ⟨none, none, rfl, Same.refl _, fun k hk => absurd hk (Nat.not_lt_zero _)⟩ ?_ ?_ ?_
        · rintro i σ H3 _ ⟨_, _, _, s3, _⟩
          exact ⟨(s1.trans (s2.trans s3)).seq tb.at', (s1.trans (s2.trans s3)).seq hA⟩
        · rintro i x y σ H3 H4 hx hy ⟨v3, v4, rfl, s3, hk⟩ s4
          have hi : i < t.length := by
            have := (List.getElem?_eq_some_iff.mp hx).1
            rw [tabV_len] at this
            exact this
          obtain ⟨r, er⟩ : ∃ r, t[i]? = some r := ⟨_, List.getElem?_eq_getElem hi⟩
          have ex : x = .str (rowS r) := by
            rw [tabV_get er] at hx
            exact (Option.some.inj hx).symm
          subst ex
          obtain ⟨m, em, rfl⟩ := int_at hy
          have hw := tb.row er
          have hwt : widT t = r.length := by
            rw [hw]
            cases t with
            | nil => cases er
            | cons r0 t0 => exact tb.wid r0 List.mem_cons_self
          have h4 : Same H H4 := s1.trans (s2.trans (s3.trans s4))
          have lm : ms.length ≤ 100 := by
            rw [e2, hwt, hw]
            exact tb.wl
          have hd : t.getD i [] = r := by simp [er]
          have hm : ns.getD i 0 = m := by simp [em]
          dsimp only [cxComp, cxOf, Cx.wish, tRet, tRetN, tSeq, tNext, tIfS, tDrop, tNot, tB, tTest, tAnd, tOr, tAndV, tOrV, tNotV, tIf, tCB, tCons, tNil, tVar, tC, tOp, tUn, tBM, tBM0, tCall, tLst, tTup, tAsg, tPar, tSl, tSl3, tNoPart, tPart, tChain, tComp, tCompS, iList, iRng1, iRng2, iEnum, iZip, rI, rI0, rU, rEq, rNe, rIxL, rIxT, rIxS, rIx, rSlL, rSlS, rCat, rEqL, rIsi, rAppend, rPop, rSetL, gSub, tDGet, tDIn, sDPut, tDisp, tPairs, iZipX, rIsiO, tFld, tMeth, tMake, sFld, tOrO, iEnumT, tMaxD, tSortK, tDNewK]
          refine ⟨_, rfl, _, rfl, .t (rowS r), .l B, rfl, trivial, ⟨_, h4.seq hB⟩, comp_zipTL (fun j => some (.bl (!(r.getD j false == decide (m > ms.getD j 0))))) (h4.seq hB) (by rw [rowS_len, List.length_map, e2, hwt]) (by rw [List.length_map]; exact Nat.le_trans lm (by decide)) (fun j c y hc hy => .map fun H5 k s5 hk => ?_) fun D H5 s5 n5 e5 => ?_⟩
          · obtain ⟨th, et, rfl⟩ := int_at hy
            refine ⟨_, rfl, rfl, _, rfl, _, rfl, _, _, rfl, rfl, rfl, ?_⟩
            have hc2 : c = sgn (r.getD j false) := by
              rw [rowS_list, List.getElem?_map] at hc
              cases e : r[j]? with
              | none => rw [e] at hc; cases hc
              | some b =>
                rw [e] at hc
                rw [List.getD_eq_getElem?_getD, e]
                exact (Option.some.inj hc).symm
            have ht : ms.getD j 0 = th := by simp [et]
            rw [ht] at hk
            have key : decide (V.str ⟨#[sgn (r.getD j false)]⟩ = V.str (Str.ofString "x")) = r.getD j false := by
              rw [x_is]
              cases r.getD j false <;> decide
            rw [hc2, key]
            have e : (!decide (V.bl (r.getD j false) = V.bl (decide (th < m)))) = !(r.getD j false == decide (m > th)) := by
              cases r.getD j false <;> by_cases h : th < m <;> simp [h]
            rw [e]
            exact hk _ (Same.refl _)
          · rw [fm_some, List.length_map] at e5
            have eb : (List.range ms.length).map (fun j => V.bl (!(r.getD j false == decide (m > ms.getD j 0)))) = ((List.range ms.length).map fun j => !(r.getD j false == decide (m > ms.getD j 0))).map V.bl := by
              rw [List.map_map]
              rfl
            rw [eb] at e5
            have key : ((List.range ms.length).map fun j => !(r.getD j false == decide (m > ms.getD j 0))).any id = !(rowT r m ms) := by
              unfold rowT
              rw [List.any_map, List.not_all_eq_any_not]
              rfl
            refine ⟨D, _, rfl, .of e5, _, rfl, ?_⟩
            rw [key]
            refine ite_cases (fun h => ?_) fun h => ⟨_, _, rfl, s3.trans (s4.trans s5), fun k hk' => ?_⟩
            · have : stepsT t ns ms = false := by
                unfold stepsT
                rw [Bool.and_eq_false_iff]
                right
                rw [List.all_eq_false]
                refine ⟨i, List.mem_range.mpr hi, ?_⟩
                rw [hd, hm]
                simpa using h
              rw [← this]
              exact q _ (h4.trans s5)
            · rcases Nat.lt_succ_iff_lt_or_eq.mp hk' with z | z
              · exact hk k z
              · rw [z, hd, hm]
                simpa using h
        · rintro σ H3 ⟨v3, v4, rfl, s3, hk⟩
          refine hnx _ _ ⟨s1.trans (s2.trans s3), ?_⟩
          unfold stepsT
          rw [tabV_len] at hk
          rw [e1, e2]
          simp only [beq_self_eq_true, Bool.true_and, List.all_eq_true, List.mem_range]
          exact hk
    rintro σ2 H2 ⟨s2, e⟩
    dsimp only [cxComp, cxOf, Cx.wish, tRet, tRetN, tSeq, tNext, tIfS, tDrop, tNot, tB, tTest, tAnd, tOr, tAndV, tOrV, tNotV, tIf, tCB, tCons, tNil, tVar, tC, tOp, tUn, tBM, tBM0, tCall, tLst, tTup, tAsg, tPar, tSl, tSl3, tNoPart, tPart, tChain, tComp, tCompS, iList, iRng1, iRng2, iEnum, iZip, rI, rI0, rU, rEq, rNe, rIxL, rIxT, rIxS, rIx, rSlL, rSlS, rCat, rEqL, rIsi, rAppend, rPop, rSetL, gSub, tDGet, tDIn, sDPut, tDisp, tPairs, iZipX, rIsiO, tFld, tMeth, tMake, sFld, tOrO, iEnumT, tMaxD, tSortK, tDNewK]
    rw [← e]
    exact q H2 s2
end
end Wa
namespace Wa
open PySem PySem.Spec PyProof.Rows L2
def stepsF (R C : Addr) : List (Str × V) := [("rows", .ref R), ("columns", .ref C)]
def crossF (i j k l : Int) : List (Str × V) := [("one", .int i), ("first", .int j), ("other", .int k), ("second", .int l)]
/-- an answer of steps -/
structure AnS (K : PySem.W.Frag) (cl : Str → Addr) (H : Hp) (D R C : Addr) (ns ms : List Int) : Prop where
  is : Is K cl H D "Steps" (stepsF R C)
  rows : H R = some (.lst (ns.map V.int))
  cols : H C = some (.lst (ms.map V.int))
theorem AnS.same {K : PySem.W.Frag} {cl : Str → Addr} {H H' : Hp} {D R C : Addr} {ns ms : List Int} (h : AnS K cl H D R C ns ms) (s : Same H H') : AnS K cl H' D R C ns ms := ⟨h.is.same s, s _ _ h.rows, s _ _ h.cols⟩
structure Ats (K : PySem.W.Frag) (cl : Str → Addr) : Prop where
  rows : NoAttr K (cl "Steps") "rows"
  columns : NoAttr K (cl "Steps") "columns"
  one : NoAttr K (cl "Cross") "one"
  first : NoAttr K (cl "Cross") "first"
  other : NoAttr K (cl "Cross") "other"
  second : NoAttr K (cl "Cross") "second"
theorem Ats.of {K : PySem.W.Frag} {cl : Str → Addr} (N : Nas K cl) : Ats K cl :=
  ⟨N.na ("Steps", "rows") (by decide), N.na ("Steps", "columns") (by decide), N.na ("Cross", "one") (by decide), N.na ("Cross", "first") (by decide), N.na ("Cross", "other") (by decide), N.na ("Cross", "second") (by decide)⟩
def spDue (K : PySem.W.Frag) (cl : Str → Addr) : Sp := fun vs H Q _ => ∃ a t w D, vs = [.ref a, .ref D] ∧ Tb K H a t w ∧
  ((∃ R C ns ms, AnS K cl H D R C ns ms ∧ ∀ H', Same H H' → Q (.bl (stepsT t ns ms)) H') ∨ ∃ i j k l, Is K cl H D "Cross" (crossF i j k l) ∧ Q (.bl (crossT t i j k l)) H)
section
variable {P : Program} {w : World} {K : PySem.W.Frag} {mg : Str → Option Value} {base : Heap}
theorem S__law_due : FnScope ["_law_table_here", "_law_found"] ["_law_table_here", "_law_found"] (defScope (top 47)) := ⟨rfl, rfl, rfl, by decide +kernel, rfl, by decide +kernel, by decide +kernel⟩
theorem ok__law_due {f : Addr} {fd : FuncData} {cl : Str → Addr} (F : Fun K "_law_due" "_law_due" (top 47) f fd) (T : Nm mg) (G : Ks K mg cl) (N : Ats K cl)
    (c_law_cross : DefC P w K mg base 2 "_law_cross" ["_law_table_here", "_law_one", "_law_first", "_law_other", "_law_second"] (spCross K)) (c_law_steps : DefC P w K mg base 1 "_law_steps" ["_law_table_here", "_law_rows", "_law_columns"] (spSteps K)) :
    FnOk P w K mg base CX0 3 f fd ["_law_table_here", "_law_found"] (spDue K cl) := by
  have S := S__law_due
  have m_Steps := G.m "Steps" (by decide)
  refine F.ok S (fun vs H Q E h => ?_) (fun cdv A outer s H vs Q E hr h => ?_)
  · obtain ⟨a, t, w, D, rfl, _⟩ := h
    rfl
  · obtain ⟨a, t, n, D, rfl, tb, h⟩ := h
    refine ⟨_, (pss_cons (ps_if (pt_val (pe_callB call_isiO (by rfl) T.n_isinstance bt_isinstance (pa_cons (pv 1) (pa_cons (pe_glob (v := .ref _) (by rfl) m_Steps rfl) pa_nil)))) (pss_one (ps_ret (pe_callC c_law_steps hr (by rfl) (pa_cons (pv 0) (pa_cons (pe_fld (pv 1) rfl) (pa_cons (pe_fld (pv 1) rfl) pa_nil)))))) pss_nil)
      (pss_one (ps_ret (pe_callC c_law_cross hr (by rfl) (pa_cons (pv 0) (pa_cons (pe_fld (pv 1) rfl) (pa_cons (pe_fld (pv 1) rfl) (pa_cons (pe_fld (pv 1) rfl) (pa_cons (pe_fld (pv 1) rfl) pa_nil))))))))), ?_⟩
    dsimp only [cxComp, cxOf, Cx.wish, tRet, tRetN, tSeq, tNext, tIfS, tDrop, tNot, tB, tTest, tAnd, tOr, tAndV, tOrV, tNotV, tIf, tCB, tCons, tNil, tVar, tC, tOp, tUn, tBM, tBM0, tCall, tLst, tTup, tAsg, tPar, tSl, tSl3, tNoPart, tPart, tChain, tComp, tCompS, iList, iRng1, iRng2, iEnum, iZip, rI, rI0, rU, rEq, rNe, rIxL, rIxT, rIxS, rIx, rSlL, rSlS, rCat, rEqL, rIsi, rAppend, rPop, rSetL, gSub, tDGet, tDIn, sDPut, tDisp, tPairs, iZipX, rIsiO, tFld, tMeth, tMake, sFld, tOrO, iEnumT, tMaxD, tSortK, tDNewK]
    rcases h with ⟨R, C, ns, ms, an, q⟩ | ⟨i, j, k, l, is, q⟩
    · refine ⟨_, rfl, _, _, _, _, rfl, an.is.ty G (by decide), G.one _ (by decide) _ (by decide), _, rfl, iteTb rfl ?_⟩
      refine ⟨_, rfl, _, rfl, an.is.get G (by decide) N.rows (.head _) ?_⟩
      refine ⟨_, rfl, an.is.get G (by decide) N.columns (.tail _ (.head _)) ?_⟩
      exact ⟨a, t, n, R, ns, C, ms, rfl, tb, .of an.rows, .of an.cols, q⟩
    · refine ⟨_, rfl, _, _, _, _, rfl, is.ty G (by decide), G.one _ (by decide) _ (by decide), _, rfl, iteFb rfl ?_⟩
      refine ⟨_, rfl, _, rfl, is.get G (by decide) N.one (.head _) ?_⟩
      refine ⟨_, rfl, is.get G (by decide) N.first (.tail _ (.head _)) ?_⟩
      refine ⟨_, rfl, is.get G (by decide) N.other (.tail _ (.tail _ (.head _))) ?_⟩
      refine ⟨_, rfl, is.get G (by decide) N.second (.tail _ (.tail _ (.tail _ (.head _)))) ?_⟩
      exact ⟨a, t, n, i, j, k, l, rfl, tb, q⟩
end
end Wa
namespace Wa
open PySem PySem.Spec PyProof.Rows L2
def spTellS (K : PySem.W.Frag) (cl : Str → Addr) (Pt : Addr) : Sp := fun vs H Q _ => ∃ a t w, vs = [.ref a] ∧ Tb K H a t w ∧ t.length ≤ 64 ∧ TabH H Pt ∧
  (∀ D R C ns ms H', Same H H' → H R = none → R ≠ C → AnS K cl H' D R C ns ms → stepsT t ns ms = true → Q (.ref D) H') ∧
  ∀ D i j k l H', Same H H' → Is K cl H' D "Cross" (crossF i j k l) → crossT t i j k l = true → Q (.ref D) H'
def spShowS (K : PySem.W.Frag) (cl : Str → Addr) : Sp := fun vs H Q _ => ∃ a t w D R C ns ms, vs = [.ref D, .ref a] ∧ Tb K H a t w ∧ AnS K cl H D R C ns ms ∧ ∀ H', Same H H' → Q (.bl (stepsT t ns ms)) H'
def spShowC (K : PySem.W.Frag) (cl : Str → Addr) : Sp := fun vs H Q _ => ∃ a t w D i j k l, vs = [.ref D, .ref a] ∧ Tb K H a t w ∧ Is K cl H D "Cross" (crossF i j k l) ∧ ∀ H', Same H H' → Q (.bl (crossT t i j k l)) H'
/-- what steps has found -/
def Found (K : PySem.W.Frag) (cl : Str → Addr) (H0 H : Hp) (D : Addr) (nm : Str) (t : Tab) : Prop :=
  (nm = "Steps" ∧ ∃ R C ns ms, H0 R = none ∧ R ≠ C ∧ AnS K cl H D R C ns ms ∧ stepsT t ns ms = true) ∨ (nm = "Cross" ∧ ∃ i j k l, Is K cl H D "Cross" (crossF i j k l) ∧ crossT t i j k l = true)
theorem Found.same {K : PySem.W.Frag} {cl : Str → Addr} {H0 H H' : Hp} {D : Addr} {nm : Str} {t : Tab} (h : Found K cl H0 H D nm t) (s : Same H H') : Found K cl H0 H' D nm t := by
  rcases h with ⟨e, R, C, ns, ms, h1, h2, h3, h4⟩ | ⟨e, i, j, k, l, h1, h2⟩
  · exact .inl ⟨e, R, C, ns, ms, h1, h2, h3.same s, h4⟩
  · exact .inr ⟨e, i, j, k, l, h1.same s, h2⟩
theorem Found.ty {K : PySem.W.Frag} {mg : Str → Option Value} {cl : Str → Addr} {H0 H : Hp} {D : Addr} {nm : Str} {t : Tab} (h : Found K cl H0 H D nm t) (G : Ks K mg cl) : TyOf K H (.ref D) (.ref (cl nm)) := by
  rcases h with ⟨rfl, R, C, ns, ms, h1, h2, h3, h4⟩ | ⟨rfl, i, j, k, l, h1, h2⟩
  · exact h3.is.ty G (by decide)
  · exact h1.ty G (by decide)
theorem Found.mem {K : PySem.W.Frag} {cl : Str → Addr} {H0 H : Hp} {D : Addr} {nm : Str} {t : Tab} (h : Found K cl H0 H D nm t) : nm = "Steps" ∨ nm = "Cross" := by
  rcases h with ⟨h, _⟩ | ⟨h, _⟩
  · exact .inl h
  · exact .inr h
/-- isinstance asked of it -/
theorem Found.isi {K : PySem.W.Frag} {mg : Str → Option Value} {cl : Str → Addr} {H0 H : Hp} {D : Addr} {nm : Str} {t : Tab} {Q : Bool → Prop} (h : Found K cl H0 H D nm t) (G : Ks K mg cl) (k : Str) (hk : k ∈ klasses) (q : Q (nm == k || k == "Answer")) :
    ∃ x C t b, [V.ref D, V.ref (cl k)] = [x, .ref C] ∧ TyOf K H x t ∧ PySem.W.kitOne K t (.ref C) = some b ∧ Q b := by
  refine ⟨_, _, _, _, rfl, h.ty G, G.one nm ?_ k hk, q⟩
  rcases h.mem with z | z <;> rw [z] <;> decide
theorem stepsT_len {t : Tab} {ns ms : List Int} (h : stepsT t ns ms = true) : ns.length = t.length ∧ ms.length = widT t := by
  unfold stepsT at h
  rw [Bool.and_eq_true, Bool.and_eq_true, beq_iff_eq, beq_iff_eq] at h
  exact h.1
theorem stepsT_more {t : Tab} {ns ms : List Int} (h : ns.length = t.length) (x : Int) : stepsT t (ns ++ [x]) ms = false := by
  unfold stepsT
  rw [List.length_append, h]
  simp
def spRight (K : PySem.W.Frag) (Pt : Addr) : Sp := fun vs H Q _ => ∃ a t w, vs = [.ref a] ∧ Tb K H a t w ∧ t.length ≤ 64 ∧ TabH H Pt ∧ ∀ H', Same H H' → Q (.bl true) H'
section
variable {P : Program} {w : World} {K : PySem.W.Frag} {mg : Str → Option Value} {base : Heap}
theorem S__law_right : FnScope ["_law_table_here", "_law_handed", "_law_found", "_law_kinds", "_law_some", "_law_other"] ["_law_table_here"] (defScope (top 48)) := ⟨rfl, rfl, rfl, by decide +kernel, rfl, by decide +kernel, by decide +kernel⟩
set_option maxHeartbeats 4000000 in
theorem ok__law_right {f : Addr} {fd : FuncData} {cl : Str → Addr} {ps ps1 ps2 : List Str} {Pt : Addr} (F : Fun K "_law_right" "_law_right" (top 48) f fd) (T : Nm mg) (G : Ks K mg cl) (N : Ats K cl)
    (c_steps : DefC P w K mg base 20 "steps" ps (spTellS K cl Pt)) (c_shows_Steps : MetC P w K mg base 20 (cl "Steps") "shows" ps1 (spShowS K cl)) (c_shows_Cross : MetC P w K mg base 20 (cl "Cross") "shows" ps2 (spShowC K cl))
    (c_law_turned : DefC P w K mg base 1 "_law_turned" ["_law_table_here"] (spTurned K)) (c_law_numbers : DefC P w K mg base 1 "_law_numbers" ["_law_found", "_law_many"] (spNumbers K)) (c_law_due : DefC P w K mg base 3 "_law_due" ["_law_table_here", "_law_found"] (spDue K cl)) :
    FnOk P w K mg base CX0 21 f fd ["_law_table_here"] (spRight K Pt) := by
  have S := S__law_right
  have m_Answer := G.m "Answer" (by decide)
  have m_Beside := G.m "Beside" (by decide)
  have m_Cross := G.m "Cross" (by decide)
  have m_Line := G.m "Line" (by decide)
  have m_Mutual := G.m "Mutual" (by decide)
  have m_Neither := G.m "Neither" (by decide)
  have m_Ranks := G.m "Ranks" (by decide)
  have m_Round := G.m "Round" (by decide)
  have m_Self := G.m "Self" (by decide)
  have m_Steps := G.m "Steps" (by decide)
  have m_Stretches := G.m "Stretches" (by decide)
  refine F.ok S (fun vs H Q E h => ?_) (fun cdv A outer s H vs Q E hr h => ?_)
  · obtain ⟨a, t, w, rfl, _⟩ := h
    rfl
  · obtain ⟨a, t, n, rfl, tb, h64, hP, q⟩ := h
    refine ⟨_, (pss_cons (ps_set (i := 1) S.nd rfl (by first | exact Or.inl rfl | exact Or.inr rfl) (pe_callTy call_list_of (by rfl) T.n_list bt_list (pa_cons (pv 0) pa_nil)))
      (pss_cons (ps_set (i := 2) S.nd rfl (by first | exact Or.inl rfl | exact Or.inr rfl) (pe_callC c_steps hr (by rfl) (pa_cons (pv 1) pa_nil)))
      (pss_cons (ps_set (i := 3) S.nd rfl (by first | exact Or.inl rfl | exact Or.inr rfl) (pe_lst (pa_cons (pe_callB call_isiO (by rfl) T.n_isinstance bt_isinstance (pa_cons (pv 2) (pa_cons (pe_glob (v := .ref _) (by rfl) m_Beside rfl) pa_nil))) (pa_cons (pe_callB call_isiO (by rfl) T.n_isinstance bt_isinstance (pa_cons (pv 2) (pa_cons (pe_glob (v := .ref _) (by rfl) m_Cross rfl) pa_nil))) (pa_cons (pe_callB call_isiO (by rfl) T.n_isinstance bt_isinstance (pa_cons (pv 2) (pa_cons (pe_glob (v := .ref _) (by rfl) m_Line rfl) pa_nil))) (pa_cons (pe_callB call_isiO (by rfl) T.n_isinstance bt_isinstance (pa_cons (pv 2) (pa_cons (pe_glob (v := .ref _) (by rfl) m_Mutual rfl) pa_nil))) pa_nil))))))
      (pss_cons (ps_set (i := 3) S.nd rfl (by first | exact Or.inl rfl | exact Or.inr rfl) (pe_op op_cat (pv 3) (pe_lst (pa_cons (pe_callB call_isiO (by rfl) T.n_isinstance bt_isinstance (pa_cons (pv 2) (pa_cons (pe_glob (v := .ref _) (by rfl) m_Neither rfl) pa_nil))) (pa_cons (pe_callB call_isiO (by rfl) T.n_isinstance bt_isinstance (pa_cons (pv 2) (pa_cons (pe_glob (v := .ref _) (by rfl) m_Ranks rfl) pa_nil))) (pa_cons (pe_callB call_isiO (by rfl) T.n_isinstance bt_isinstance (pa_cons (pv 2) (pa_cons (pe_glob (v := .ref _) (by rfl) m_Round rfl) pa_nil))) pa_nil))))))
      (pss_cons (ps_set (i := 3) S.nd rfl (by first | exact Or.inl rfl | exact Or.inr rfl) (pe_op op_cat (pv 3) (pe_lst (pa_cons (pe_callB call_isiO (by rfl) T.n_isinstance bt_isinstance (pa_cons (pv 2) (pa_cons (pe_glob (v := .ref _) (by rfl) m_Self rfl) pa_nil))) (pa_cons (pe_callB call_isiO (by rfl) T.n_isinstance bt_isinstance (pa_cons (pv 2) (pa_cons (pe_glob (v := .ref _) (by rfl) m_Steps rfl) pa_nil))) (pa_cons (pe_callB call_isiO (by rfl) T.n_isinstance bt_isinstance (pa_cons (pv 2) (pa_cons (pe_glob (v := .ref _) (by rfl) m_Stretches rfl) pa_nil))) pa_nil))))))
      (pss_cons (ps_if (PW.pt (pw_or (pt_not (pt_val (pe_callB call_isiO (by rfl) T.n_isinstance bt_isinstance (pa_cons (pv 2) (pa_cons (pe_glob (v := .ref _) (by rfl) m_Answer rfl) pa_nil))))) (pw_or (pt_cmpR op_ne (pe_bm PySem.F.plainAttrs_list PySem.F.slot_list_count PySem.F.type_list_count (mt_countL hr.units0) (pv 3) (pa_cons pe_bl pa_nil)) pe_int (nomark _)) (pw_or1 (pt_cmpR (op_neL hr.units0) (pv 1) (pv 0) (nomark _)))))) (pss_one (ps_ret pe_bl)) pss_nil)
      (pss_cons (ps_if (PW.pt (pw_and (pt_not (pt_val (pe_callB call_isiO (by rfl) T.n_isinstance bt_isinstance (pa_cons (pv 2) (pa_cons (pe_glob (v := .ref _) (by rfl) m_Steps rfl) pa_nil))))) (pw_and1 (pt_not (pt_val (pe_callB call_isiO (by rfl) T.n_isinstance bt_isinstance (pa_cons (pv 2) (pa_cons (pe_glob (v := .ref _) (by rfl) m_Cross rfl) pa_nil)))))))) (pss_one (ps_ret pe_bl)) pss_nil)
      (pss_cons (ps_if (pt_val (pe_callB call_isiO (by rfl) T.n_isinstance bt_isinstance (pa_cons (pv 2) (pa_cons (pe_glob (v := .ref _) (by rfl) m_Steps rfl) pa_nil)))) (pss_one (ps_set (i := 4) S.nd rfl (by first | exact Or.inl rfl | exact Or.inr rfl) (pe_lst (pa_cons (pe_op op_cat (pe_fld (pv 2) rfl) (pe_fld (pv 2) rfl)) (pa_cons (pe_op op_add (pe_callB call_len_seq (by rfl) T.n_len bt_len (pa_cons (pv 0) pa_nil)) (pe_callB call_len_seq (by rfl) T.n_len bt_len (pa_cons (pe_callC c_law_turned hr (by rfl) (pa_cons (pv 0) pa_nil)) pa_nil))) pa_nil))))) (pss_one (ps_set (i := 4) S.nd rfl (by first | exact Or.inl rfl | exact Or.inr rfl) (pe_lst (pa_cons (pe_lst (pa_cons (pe_fld (pv 2) rfl) (pa_cons (pe_fld (pv 2) rfl) (pa_cons (pe_fld (pv 2) rfl) (pa_cons (pe_fld (pv 2) rfl) pa_nil))))) (pa_cons pe_int pa_nil))))))
      (pss_cons (ps_if (PW.pt (pw_or (pt_not (pt_val (pe_callC c_law_numbers hr (by rfl) (pa_cons (pe_ix ix_list (pv 4) pe_int (fun _ _ => rfl)) (pa_cons (pe_ix ix_list (pv 4) pe_int (fun _ _ => rfl)) pa_nil))))) (pw_or (pt_not (pt_val (pe_callC c_law_due hr (by rfl) (pa_cons (pv 0) (pa_cons (pv 2) pa_nil))))) (pw_or1 (pt_cmpR op_isnot_bl (PE.or (pe_methC c_shows_Steps hr (pv 2) (pa_cons (pv 0) pa_nil)) (pe_methC c_shows_Cross hr (pv 2) (pa_cons (pv 0) pa_nil))) pe_bl (nomark _)))))) (pss_one (ps_ret pe_bl)) pss_nil)
      (pss_cons (ps_set (i := 5) S.nd rfl (by first | exact Or.inl rfl | exact Or.inr rfl) (pe_callC c_law_turned hr (by rfl) (pa_cons (pv 0) pa_nil)))
      (pss_cons (ps_if (pt_cmpR op_ne (PE.or (pe_methC c_shows_Steps hr (pv 2) (pa_cons (pv 5) pa_nil)) (pe_methC c_shows_Cross hr (pv 2) (pa_cons (pv 5) pa_nil))) (pe_callC c_law_due hr (by rfl) (pa_cons (pv 5) (pa_cons (pv 2) pa_nil))) (nomark _)) (pss_one (ps_ret pe_bl)) pss_nil)
      (pss_cons (ps_if (pt_val (pe_callB call_isiO (by rfl) T.n_isinstance bt_isinstance (pa_cons (pv 2) (pa_cons (pe_glob (v := .ref _) (by rfl) m_Steps rfl) pa_nil)))) (pss_cons (ps_expr (pe_bm PySem.F.plainAttrs_list PySem.F.slot_list_append PySem.F.type_list_append mt_append (pe_fld (pv 2) rfl) (pa_cons pe_int pa_nil)))
      (pss_one (ps_ret (pe_cmpR op_is_bl (PE.or (pe_methC c_shows_Steps hr (pv 2) (pa_cons (pv 0) pa_nil)) (pe_methC c_shows_Cross hr (pv 2) (pa_cons (pv 0) pa_nil))) pe_bl (nomark _))))) pss_nil)
      (pss_one (ps_ret pe_bl)))))))))))))), ?_⟩
    -- handed
    refine seq_cut (fun σ' H' => ∃ A2, σ' = [some (.ref a), some (.ref A2), none, none, none, none] ∧ Same H H' ∧ H' A2 = some (.lst (tabV t))) (fun nx' hnx => ?_) ?_
    · dsimp only [cxComp, cxOf, Cx.wish, tRet, tRetN, tSeq, tNext, tIfS, tDrop, tNot, tB, tTest, tAnd, tOr, tAndV, tOrV, tNotV, tIf, tCB, tCons, tNil, tVar, tC, tOp, tUn, tBM, tBM0, tCall, tLst, tTup, tAsg, tPar, tSl, tSl3, tNoPart, tPart, tChain, tComp, tCompS, iList, iRng1, iRng2, iEnum, iZip, rI, rI0, rU, rEq, rNe, rIxL, rIxT, rIxS, rIx, rSlL, rSlS, rCat, rEqL, rIsi, rAppend, rPop, rSetL, gSub, tDGet, tDIn, sDPut, tDisp, tPairs, iZipX, rIsiO, tFld, tMeth, tMake, sFld, tOrO, iEnumT, tMaxD, tSortK, tDNewK]
      exact ⟨_, rfl, a, _, rfl, .inl tb.at', fun A2 hA2 => hnx _ _ ⟨A2, rfl, (Same.refl H).upd hA2, upd_same⟩⟩
    rintro σ1 H1 ⟨A2, rfl, s1, e1⟩
    have t1 := tb.same s1
    have h1 : Tb K H1 A2 t n := ⟨.of e1, tb.wid, tb.len, tb.wl⟩
    -- found
    refine seq_cut (fun σ' H' => ∃ D nm, σ' = [some (.ref a), some (.ref A2), some (.ref D), none, none, none] ∧ Same H1 H' ∧ Found K cl H1 H' D nm t) (fun nx' hnx => ?_) ?_
    · dsimp only [cxComp, cxOf, Cx.wish, tRet, tRetN, tSeq, tNext, tIfS, tDrop, tNot, tB, tTest, tAnd, tOr, tAndV, tOrV, tNotV, tIf, tCB, tCons, tNil, tVar, tC, tOp, tUn, tBM, tBM0, tCall, tLst, tTup, tAsg, tPar, tSl, tSl3, tNoPart, tPart, tChain, tComp, tCompS, iList, iRng1, iRng2, iEnum, iZip, rI, rI0, rU, rEq, rNe, rIxL, rIxT, rIxS, rIx, rSlL, rSlS, rCat, rEqL, rIsi, rAppend, rPop, rSetL, gSub, tDGet, tDIn, sDPut, tDisp, tPairs, iZipX, rIsiO, tFld, tMeth, tMake, sFld, tOrO, iEnumT, tMaxD, tSortK, tDNewK]
      exact ⟨_, rfl, A2, t, n, rfl, h1, h64, hP.same s1, fun D R C ns ms H' s' hR hn an e => hnx _ _ ⟨D, _, rfl, s', .inl ⟨rfl, R, C, ns, ms, hR, hn, an, e⟩⟩, fun D i j k l H' s' is e => hnx _ _ ⟨D, _, rfl, s', .inr ⟨rfl, i, j, k, l, is, e⟩⟩⟩
    rintro σ2 H2 ⟨D, nm, rfl, s2, fo⟩
    -- kinds
    refine seq_cut (fun σ' H' => ∃ L, σ' = [some (.ref a), some (.ref A2), some (.ref D), some (.ref L), none, none] ∧ Same H2 H' ∧ H' L = some (.lst (kindsB nm ["Beside", "Cross", "Line", "Mutual"]))) (fun nx' hnx => ?_) ?_
    · dsimp only [cxComp, cxOf, Cx.wish, tRet, tRetN, tSeq, tNext, tIfS, tDrop, tNot, tB, tTest, tAnd, tOr, tAndV, tOrV, tNotV, tIf, tCB, tCons, tNil, tVar, tC, tOp, tUn, tBM, tBM0, tCall, tLst, tTup, tAsg, tPar, tSl, tSl3, tNoPart, tPart, tChain, tComp, tCompS, iList, iRng1, iRng2, iEnum, iZip, rI, rI0, rU, rEq, rNe, rIxL, rIxT, rIxS, rIx, rSlL, rSlS, rCat, rEqL, rIsi, rAppend, rPop, rSetL, gSub, tDGet, tDIn, sDPut, tDisp, tPairs, iZipX, rIsiO, tFld, tMeth, tMake, sFld, tOrO, iEnumT, tMaxD, tSortK, tDNewK]
      refine ⟨_, rfl, fo.isi G "Beside" (by decide) ?_⟩
      refine ⟨_, rfl, fo.isi G "Cross" (by decide) ?_⟩
      refine ⟨_, rfl, fo.isi G "Line" (by decide) ?_⟩
      refine ⟨_, rfl, fo.isi G "Mutual" (by decide) ?_⟩
      exact ⟨four_le, fun p hp => hnx _ _ ⟨p, rfl, (Same.refl H2).upd hp, upd_same⟩⟩
    rintro σ3 H3 ⟨L, rfl, s3, eL⟩
    have fo3 := fo.same s3
    refine seq_cut (fun σ' H' => ∃ L, σ' = [some (.ref a), some (.ref A2), some (.ref D), some (.ref L), none, none] ∧ Same H3 H' ∧ H' L = some (.lst (kindsB nm ["Beside", "Cross", "Line", "Mutual", "Neither", "Ranks", "Round"]))) (fun nx' hnx => ?_) ?_
    · dsimp only [cxComp, cxOf, Cx.wish, tRet, tRetN, tSeq, tNext, tIfS, tDrop, tNot, tB, tTest, tAnd, tOr, tAndV, tOrV, tNotV, tIf, tCB, tCons, tNil, tVar, tC, tOp, tUn, tBM, tBM0, tCall, tLst, tTup, tAsg, tPar, tSl, tSl3, tNoPart, tPart, tChain, tComp, tCompS, iList, iRng1, iRng2, iEnum, iZip, rI, rI0, rU, rEq, rNe, rIxL, rIxT, rIxS, rIx, rSlL, rSlS, rCat, rEqL, rIsi, rAppend, rPop, rSetL, gSub, tDGet, tDIn, sDPut, tDisp, tPairs, iZipX, rIsiO, tFld, tMeth, tMake, sFld, tOrO, iEnumT, tMaxD, tSortK, tDNewK]
      refine ⟨_, rfl, _, rfl, fo3.isi G "Neither" (by decide) ?_⟩
      refine ⟨_, rfl, fo3.isi G "Ranks" (by decide) ?_⟩
      refine ⟨_, rfl, fo3.isi G "Round" (by decide) ?_⟩
      refine ⟨three_le, fun p hp => ⟨L, p, _, _, rfl, rfl, ((Same.refl H3).upd hp) L _ eL, upd_same, Nat.le_trans (show _ ≤ 10 from by simp [kindsB]) (by decide), fun p2 hp2 => hnx _ _ ⟨p2, rfl, ((Same.refl H3).upd hp).upd hp2, ?_⟩⟩⟩
      rw [upd_same]
      rfl
    clear eL
    rintro σ4 H4 ⟨L, rfl, s4, eL⟩
    have fo4 := fo3.same s4
    refine seq_cut (fun σ' H' => ∃ L, σ' = [some (.ref a), some (.ref A2), some (.ref D), some (.ref L), none, none] ∧ Same H4 H' ∧ H' L = some (.lst (kindsB nm ["Beside", "Cross", "Line", "Mutual", "Neither", "Ranks", "Round", "Self", "Steps", "Stretches"]))) (fun nx' hnx => ?_) ?_
    · dsimp only [cxComp, cxOf, Cx.wish, tRet, tRetN, tSeq, tNext, tIfS, tDrop, tNot, tB, tTest, tAnd, tOr, tAndV, tOrV, tNotV, tIf, tCB, tCons, tNil, tVar, tC, tOp, tUn, tBM, tBM0, tCall, tLst, tTup, tAsg, tPar, tSl, tSl3, tNoPart, tPart, tChain, tComp, tCompS, iList, iRng1, iRng2, iEnum, iZip, rI, rI0, rU, rEq, rNe, rIxL, rIxT, rIxS, rIx, rSlL, rSlS, rCat, rEqL, rIsi, rAppend, rPop, rSetL, gSub, tDGet, tDIn, sDPut, tDisp, tPairs, iZipX, rIsiO, tFld, tMeth, tMake, sFld, tOrO, iEnumT, tMaxD, tSortK, tDNewK]
      refine ⟨_, rfl, _, rfl, fo4.isi G "Self" (by decide) ?_⟩
      refine ⟨_, rfl, fo4.isi G "Steps" (by decide) ?_⟩
      refine ⟨_, rfl, fo4.isi G "Stretches" (by decide) ?_⟩
      refine ⟨three_le, fun p hp => ⟨L, p, _, _, rfl, rfl, ((Same.refl H4).upd hp) L _ eL, upd_same, Nat.le_trans (show _ ≤ 10 from by simp [kindsB]) (by decide), fun p2 hp2 => hnx _ _ ⟨p2, rfl, ((Same.refl H4).upd hp).upd hp2, ?_⟩⟩⟩
      rw [upd_same]
      rfl
    clear eL
    rintro σ5 H5 ⟨L, rfl, s5, eL⟩
    have fo5 := fo4.same s5
    -- of one class alone
    refine seq_cut (fun σ' H' => σ' = [some (.ref a), some (.ref A2), some (.ref D), some (.ref L), none, none] ∧ Same H5 H') (fun nx' hnx => ?_) ?_
    · dsimp only [cxComp, cxOf, Cx.wish, tRet, tRetN, tSeq, tNext, tIfS, tDrop, tNot, tB, tTest, tAnd, tOr, tAndV, tOrV, tNotV, tIf, tCB, tCons, tNil, tVar, tC, tOp, tUn, tBM, tBM0, tCall, tLst, tTup, tAsg, tPar, tSl, tSl3, tNoPart, tPart, tChain, tComp, tCompS, iList, iRng1, iRng2, iEnum, iZip, rI, rI0, rU, rEq, rNe, rIxL, rIxT, rIxS, rIx, rSlL, rSlS, rCat, rEqL, rIsi, rAppend, rPop, rSetL, gSub, tDGet, tDIn, sDPut, tDisp, tPairs, iZipX, rIsiO, tFld, tMeth, tMake, sFld, tOrO, iEnumT, tMaxD, tSortK, tDNewK]
      refine ⟨_, rfl, fo5.isi G "Answer" (by decide) ?_⟩
      refine ⟨_, rfl, iteFb ?_ ⟨_, rfl, .inl ⟨rfl, _, .of eL⟩, L, _, _, rfl, rfl, .of eL, kindsB_flat _ _, rfl, rfl, _, rfl, iteFb ?_ ?_⟩⟩
      · rw [show (("Answer" : Str) == "Answer") = true from by decide, Bool.or_true]
        rfl
      · rcases fo5.mem with z | z <;> rw [z] <;> decide +kernel
      · refine ⟨_, rfl, _, rfl, A2, a, _, _, rfl, rfl, (h1.same (s2.trans (s3.trans (s4.trans s5)))).at', (t1.same (s2.trans (s3.trans (s4.trans s5)))).at', tabV_flat _, tabV_flat _, _, rfl, iteFb (by rw [tab_eq]; simp) (hnx _ _ ⟨rfl, Same.refl _⟩)⟩
    rintro σ6 H6 ⟨rfl, s6⟩
    have fo6 := fo5.same s6
    refine seq_cut (fun σ' H' => σ' = [some (.ref a), some (.ref A2), some (.ref D), some (.ref L), none, none] ∧ Same H6 H') (fun nx' hnx => ?_) ?_
    · dsimp only [cxComp, cxOf, Cx.wish, tRet, tRetN, tSeq, tNext, tIfS, tDrop, tNot, tB, tTest, tAnd, tOr, tAndV, tOrV, tNotV, tIf, tCB, tCons, tNil, tVar, tC, tOp, tUn, tBM, tBM0, tCall, tLst, tTup, tAsg, tPar, tSl, tSl3, tNoPart, tPart, tChain, tComp, tCompS, iList, iRng1, iRng2, iEnum, iZip, rI, rI0, rU, rEq, rNe, rIxL, rIxT, rIxS, rIx, rSlL, rSlS, rCat, rEqL, rIsi, rAppend, rPop, rSetL, gSub, tDGet, tDIn, sDPut, tDisp, tPairs, iZipX, rIsiO, tFld, tMeth, tMake, sFld, tOrO, iEnumT, tMaxD, tSortK, tDNewK]
      rcases fo6.mem with z | z
      · refine ⟨_, rfl, fo6.isi G "Steps" (by decide) ?_⟩
        exact ⟨_, rfl, iteFb (by rw [z]; decide) (iteFb rfl (hnx _ _ ⟨rfl, Same.refl _⟩))⟩
      · refine ⟨_, rfl, fo6.isi G "Steps" (by decide) ?_⟩
        refine ⟨_, rfl, iteTb (by rw [z]; decide) ?_⟩
        refine ⟨_, rfl, fo6.isi G "Cross" (by decide) ?_⟩
        exact ⟨_, rfl, iteFb (by rw [z]; decide) (hnx _ _ ⟨rfl, Same.refl _⟩)⟩
    rintro σ7 H7 ⟨rfl, s7⟩
    have fo7 := fo6.same s7
    have s17 : Same H1 H7 := s2.trans (s3.trans (s4.trans (s5.trans (s6.trans s7))))
    have t7 := t1.same s17
    -- the numbers
    refine seq_cut (fun σ' H' => ∃ S2 L2 : Addr, ∃ ns : List Int, σ' = [some (.ref a), some (.ref A2), some (.ref D), some (.ref L), some (.ref S2), none] ∧ Same H7 H' ∧ H' S2 = some (.lst [.ref L2, .int (ns.length : Nat)]) ∧ H' L2 = some (.lst (ns.map V.int)) ∧ ns.length ≤ 200) (fun nx' hnx => ?_) ?_
    · dsimp only [cxComp, cxOf, Cx.wish, tRet, tRetN, tSeq, tNext, tIfS, tDrop, tNot, tB, tTest, tAnd, tOr, tAndV, tOrV, tNotV, tIf, tCB, tCons, tNil, tVar, tC, tOp, tUn, tBM, tBM0, tCall, tLst, tTup, tAsg, tPar, tSl, tSl3, tNoPart, tPart, tChain, tComp, tCompS, iList, iRng1, iRng2, iEnum, iZip, rI, rI0, rU, rEq, rNe, rIxL, rIxT, rIxS, rIx, rSlL, rSlS, rCat, rEqL, rIsi, rAppend, rPop, rSetL, gSub, tDGet, tDIn, sDPut, tDisp, tPairs, iZipX, rIsiO, tFld, tMeth, tMake, sFld, tOrO, iEnumT, tMaxD, tSortK, tDNewK]
      refine ⟨_, rfl, fo7.isi G "Steps" (by decide) ?_⟩
      rcases id fo7 with ⟨rfl, R, C, ns, ms, hR, hn, an, e⟩ | ⟨rfl, i, j, k, l, is, e⟩
      · refine ⟨_, rfl, iteTb (by decide) ?_⟩
        obtain ⟨l1, l2⟩ := stepsT_len e
        have l3 := widT_le t7
        have l4 := t7.wl
        have l5 := t7.len
        refine ⟨_, rfl, an.is.get G (by decide) N.rows (.head _) ?_⟩
        refine ⟨_, rfl, an.is.get G (by decide) N.columns (.tail _ (.head _)) ?_⟩
        refine ⟨R, C, _, _, rfl, rfl, an.rows, an.cols, ?_, fun p hp => ?_⟩
        · rw [List.length_map, List.length_map]
          exact Nat.le_trans (show _ ≤ 200 by omega) (by decide)
        have s8 : Same H7 (upd H7 p (.lst (ns.map V.int ++ ms.map V.int))) := (Same.refl H7).upd hp
        have e8 : (upd H7 p (.lst (ns.map V.int ++ ms.map V.int))) p = some (.lst ((ns ++ ms).map V.int)) := by rw [upd_same, List.map_append]
        generalize upd H7 p (.lst (ns.map V.int ++ ms.map V.int)) = H8 at s8 e8 ⊢
        refine ⟨_, rfl, a, _, rfl, .inl (t7.same s8).at', _, rfl, a, t, n, rfl, t7.same s8, fun D2 H9 s9 n9 e9 => ⟨D2, _, rfl, .inl (.of e9), _, _, rfl, rfl, two_le, fun p2 hp2 => hnx _ _ ⟨p2, p, ns ++ ms, rfl, s8.trans (s9.upd hp2), ?_, ?_, ?_⟩⟩⟩
        · rw [upd_same, tabV_len, tabV_len, turnT_len, List.length_append, l1, l2]
          rfl
        · rw [upd_ne (ne_of_none (s9 p _ e8) hp2)]
          exact s9 p _ e8
        · rw [List.length_append]
          omega
      · refine ⟨_, rfl, iteFb (by decide) ?_⟩
        refine ⟨_, rfl, is.get G (by decide) N.one (.head _) ?_⟩
        refine ⟨_, rfl, is.get G (by decide) N.first (.tail _ (.head _)) ?_⟩
        refine ⟨_, rfl, is.get G (by decide) N.other (.tail _ (.tail _ (.head _))) ?_⟩
        refine ⟨_, rfl, is.get G (by decide) N.second (.tail _ (.tail _ (.tail _ (.head _)))) ?_⟩
        refine ⟨four_le, fun p hp => ⟨two_le, fun p2 hp2 => hnx _ _ ⟨p2, p, [i, j, k, l], rfl, ((Same.refl H7).upd hp).upd hp2, upd_same, ?_, Nat.le_trans (Nat.le_of_eq rfl) (show 4 ≤ 200 by decide)⟩⟩⟩
        rw [upd_ne (ne_of_none upd_same hp2), upd_same]
        rfl
    rintro σ8 H8 ⟨S2, L2, ns0, rfl, s8, eS, eL2, l0⟩
    have fo8 := fo7.same s8
    have t8 := t7.same s8
    refine seq_cut (fun σ' H' => σ' = [some (.ref a), some (.ref A2), some (.ref D), some (.ref L), some (.ref S2), none] ∧ Same H8 H') (fun nx' hnx => ?_) ?_
    · dsimp only [cxComp, cxOf, Cx.wish, tRet, tRetN, tSeq, tNext, tIfS, tDrop, tNot, tB, tTest, tAnd, tOr, tAndV, tOrV, tNotV, tIf, tCB, tCons, tNil, tVar, tC, tOp, tUn, tBM, tBM0, tCall, tLst, tTup, tAsg, tPar, tSl, tSl3, tNoPart, tPart, tChain, tComp, tCompS, iList, iRng1, iRng2, iEnum, iZip, rI, rI0, rU, rEq, rNe, rIxL, rIxT, rIxS, rIx, rSlL, rSlS, rCat, rEqL, rIsi, rAppend, rPop, rSetL, gSub, tDGet, tDIn, sDPut, tDisp, tPairs, iZipX, rIsiO, tFld, tMeth, tMake, sFld, tOrO, iEnumT, tMaxD, tSortK, tDNewK]
      have num : ∀ Q2 : VK, (∀ H', Same H8 H' → Q2 (.bl true) H') → spNumbers K ([V.ref L2, V.int (ns0.length : Nat)] ++ []) H8 Q2 E0 := fun Q2 h2 => by
        refine ⟨L2, ns0, _, rfl, .of eL2, Nat.le_trans l0 (by decide), fun H' s' => ?_⟩
        rw [decide_eq_true rfl]
        exact h2 H' s'
      refine ⟨_, rfl, S2, _, _, _, rfl, rfl, .of eS, rfl, _, rfl, S2, _, _, _, rfl, rfl, .of eS, rfl, num _ fun H9 s9 => ⟨_, rfl, iteFb rfl ?_⟩⟩
      have t9 := t8.same s9
      rcases fo8.same s9 with ⟨rfl, R, C, ns, ms, hR, hn, an, e⟩ | ⟨rfl, i, j, k, l, is, e⟩
      · refine ⟨_, rfl, _, rfl, a, t, n, D, rfl, t9, .inl ⟨R, C, ns, ms, an, fun H10 s10 => ⟨_, rfl, iteFb (by rw [e]; rfl) (.inl ?_)⟩⟩⟩
        obtain ⟨dx, fs, ed, sh⟩ := (an.same s10).is.shows
        exact ⟨_, rfl, D, dx, fs, rfl, ed, sh, _, rfl, a, t, n, D, R, C, ns, ms, rfl, t9.same s10, an.same s10, fun H11 s11 => ⟨_, _, rfl, rfl, _, rfl, iteFb (by rw [e]; rfl) (hnx _ _ ⟨rfl, s9.trans (s10.trans s11)⟩)⟩⟩
      · refine ⟨_, rfl, _, rfl, a, t, n, D, rfl, t9, .inr ⟨i, j, k, l, is, ⟨_, rfl, iteFb (by rw [e]; rfl) (.inr ?_)⟩⟩⟩
        obtain ⟨dx, fs, ed, sh⟩ := is.shows
        exact ⟨_, rfl, D, dx, fs, rfl, ed, sh, _, rfl, a, t, n, D, i, j, k, l, rfl, t9, is, fun H11 s11 => ⟨_, _, rfl, rfl, _, rfl, iteFb (by rw [e]; rfl) (hnx _ _ ⟨rfl, s9.trans s11⟩)⟩⟩
    rintro σ9 H9 ⟨rfl, s9⟩
    have t9 := t8.same s9
    have fo9 := fo8.same s9
    -- turned
    refine seq_cut (fun σ' H' => ∃ O, σ' = [some (.ref a), some (.ref A2), some (.ref D), some (.ref L), some (.ref S2), some (.ref O)] ∧ Same H9 H' ∧ H' O = some (.lst (tabV (turnT t (widT t))))) (fun nx' hnx => ?_) ?_
    · dsimp only [cxComp, cxOf, Cx.wish, tRet, tRetN, tSeq, tNext, tIfS, tDrop, tNot, tB, tTest, tAnd, tOr, tAndV, tOrV, tNotV, tIf, tCB, tCons, tNil, tVar, tC, tOp, tUn, tBM, tBM0, tCall, tLst, tTup, tAsg, tPar, tSl, tSl3, tNoPart, tPart, tChain, tComp, tCompS, iList, iRng1, iRng2, iEnum, iZip, rI, rI0, rU, rEq, rNe, rIxL, rIxT, rIxS, rIx, rSlL, rSlS, rCat, rEqL, rIsi, rAppend, rPop, rSetL, gSub, tDGet, tDIn, sDPut, tDisp, tPairs, iZipX, rIsiO, tFld, tMeth, tMake, sFld, tOrO, iEnumT, tMaxD, tSortK, tDNewK]
      exact ⟨_, rfl, a, t, n, rfl, t9, fun D2 H' s' n' e' => hnx _ _ ⟨D2, rfl, s', e'⟩⟩
    rintro σ10 H10 ⟨O, rfl, s10, eO⟩
    have t10 := t9.same s10
    have fo10 := fo9.same s10
    have o10 := t9.turn eO
    refine seq_cut (fun σ' H' => σ' = [some (.ref a), some (.ref A2), some (.ref D), some (.ref L), some (.ref S2), some (.ref O)] ∧ Same H10 H') (fun nx' hnx => ?_) ?_
    · dsimp only [cxComp, cxOf, Cx.wish, tRet, tRetN, tSeq, tNext, tIfS, tDrop, tNot, tB, tTest, tAnd, tOr, tAndV, tOrV, tNotV, tIf, tCB, tCons, tNil, tVar, tC, tOp, tUn, tBM, tBM0, tCall, tLst, tTup, tAsg, tPar, tSl, tSl3, tNoPart, tPart, tChain, tComp, tCompS, iList, iRng1, iRng2, iEnum, iZip, rI, rI0, rU, rEq, rNe, rIxL, rIxT, rIxS, rIx, rSlL, rSlS, rCat, rEqL, rIsi, rAppend, rPop, rSetL, gSub, tDGet, tDIn, sDPut, tDisp, tPairs, iZipX, rIsiO, tFld, tMeth, tMake, sFld, tOrO, iEnumT, tMaxD, tSortK, tDNewK]
      rcases id fo10 with ⟨rfl, R, C, ns, ms, hR, hn, an, e⟩ | ⟨rfl, i, j, k, l, is, e⟩
      · obtain ⟨dx, fs, ed, sh⟩ := an.is.shows
        refine .inl ⟨_, rfl, D, dx, fs, rfl, ed, sh, _, rfl, O, _, _, D, R, C, ns, ms, rfl, o10, an, fun H11 s11 => ?_⟩
        exact ⟨_, rfl, _, rfl, O, _, _, D, rfl, o10.same s11, .inl ⟨R, C, ns, ms, an.same s11, fun H12 s12 => ⟨rfl, _, rfl, iteFb (by simp) (hnx _ _ ⟨rfl, s11.trans s12⟩)⟩⟩⟩
      · obtain ⟨dx, fs, ed, sh⟩ := is.shows
        refine .inr ⟨_, rfl, D, dx, fs, rfl, ed, sh, _, rfl, O, _, _, D, i, j, k, l, rfl, o10, is, fun H11 s11 => ?_⟩
        exact ⟨_, rfl, _, rfl, O, _, _, D, rfl, o10.same s11, .inr ⟨i, j, k, l, is.same s11, ⟨rfl, _, rfl, iteFb (by simp) (hnx _ _ ⟨rfl, s11⟩)⟩⟩⟩
    rintro σ11 H11 ⟨rfl, s11⟩
    have fo11 := fo10.same s11
    have s111 : Same H1 H11 := s17.trans (s8.trans (s9.trans (s10.trans s11)))
    -- the list changed
    refine seq_cut (fun σ' H' => Same H H') (fun nx' hnx => ?_) ?_
    · dsimp only [cxComp, cxOf, Cx.wish, tRet, tRetN, tSeq, tNext, tIfS, tDrop, tNot, tB, tTest, tAnd, tOr, tAndV, tOrV, tNotV, tIf, tCB, tCons, tNil, tVar, tC, tOp, tUn, tBM, tBM0, tCall, tLst, tTup, tAsg, tPar, tSl, tSl3, tNoPart, tPart, tChain, tComp, tCompS, iList, iRng1, iRng2, iEnum, iZip, rI, rI0, rU, rEq, rNe, rIxL, rIxT, rIxS, rIx, rSlL, rSlS, rCat, rEqL, rIsi, rAppend, rPop, rSetL, gSub, tDGet, tDIn, sDPut, tDisp, tPairs, iZipX, rIsiO, tFld, tMeth, tMake, sFld, tOrO, iEnumT, tMaxD, tSortK, tDNewK]
      refine ⟨_, rfl, fo11.isi G "Steps" (by decide) ?_⟩
      rcases id fo11 with ⟨rfl, R, C, ns, ms, hR, hn, an, e⟩ | ⟨rfl, i, j, k, l, is, e⟩
      · obtain ⟨l1, l2⟩ := stepsT_len e
        have l5 := t1.len
        refine ⟨_, rfl, iteTb (by decide) ?_⟩
        refine ⟨_, rfl, an.is.get G (by decide) N.rows (.head _) ?_⟩
        refine ⟨.inl ⟨rfl, _, .of an.rows⟩, R, _, _, rfl, rfl, an.rows, (by rw [List.length_map]; exact Nat.lt_of_le_of_lt (show ns.length ≤ 100 by omega) (by decide)), ?_⟩
        have sR : Same H1 (upd H11 R (.lst (ns.map V.int ++ [V.int 0]))) := s111.mut hR
        have an2 : AnS K cl (upd H11 R (.lst (ns.map V.int ++ [V.int 0]))) D R C (ns ++ [0]) ms := by
          obtain ⟨dx, fs, ed, rv, sh⟩ := an.is.ex
          have nD : D ≠ R := fun z => by
            rw [z, an.rows] at ed
            cases ed
          exact ⟨⟨dx, fs, by rw [upd_ne nD]; exact ed, rv, sh⟩, by rw [upd_same, List.map_append]; rfl, by rw [upd_ne (Ne.symm hn)]; exact an.cols⟩
        generalize upd H11 R (.lst (ns.map V.int ++ [V.int 0])) = H12 at sR an2 ⊢
        obtain ⟨dx, fs, ed, sh⟩ := an2.is.shows
        refine .inl ⟨_, rfl, D, dx, fs, rfl, ed, sh, _, rfl, a, t, n, D, R, C, _, ms, rfl, t1.same sR, an2, fun H13 s13 => ⟨_, _, rfl, rfl, ?_⟩⟩
        rw [stepsT_more l1]
        exact q _ (s1.trans (sR.trans s13))
      · exact ⟨_, rfl, iteFb (by decide) (hnx _ _ (s1.trans s111))⟩
    intro σ12 H12 s12
    dsimp only [cxComp, cxOf, Cx.wish, tRet, tRetN, tSeq, tNext, tIfS, tDrop, tNot, tB, tTest, tAnd, tOr, tAndV, tOrV, tNotV, tIf, tCB, tCons, tNil, tVar, tC, tOp, tUn, tBM, tBM0, tCall, tLst, tTup, tAsg, tPar, tSl, tSl3, tNoPart, tPart, tChain, tComp, tCompS, iList, iRng1, iRng2, iEnum, iZip, rI, rI0, rU, rEq, rNe, rIxL, rIxT, rIxS, rIx, rSlL, rSlS, rCat, rEqL, rIsi, rAppend, rPop, rSetL, gSub, tDGet, tDIn, sDPut, tDisp, tPairs, iZipX, rIsiO, tFld, tMeth, tMake, sFld, tOrO, iEnumT, tMaxD, tSortK, tDNewK]
    exact q _ s12
end
end Wa
namespace Wa
open PySem PySem.Spec PyProof.Rows L2
def spLaw (K : PySem.W.Frag) (Pt : Addr) : Sp := fun vs H Q _ => ∃ (a : Addr) (ns : List Int), vs = [.ref a] ∧ SqL K H a (ns.map V.int) ∧ ns.length ≤ 63 ∧ TabH H Pt ∧ ∀ H', Q (.bl true) H'
theorem cut_tab (t : Tab) (n : Nat) : cutV (tabV t) none (some (n : Int)) = tabV (t.take n) := by
  unfold cutV
  rw [HT.sIx_none, HT.sIx_nat, List.drop_zero, Nat.sub_zero, tabV_len]
  unfold tabV
  rw [← List.map_take]
  congr 1
  by_cases h : n ≤ t.length
  · rw [Nat.min_eq_left h]
  · rw [Nat.min_eq_right (by omega), List.take_of_length_le (Nat.le_refl _), List.take_of_length_le (by omega)]
theorem pick_pos {ns : List Int} (h : 0 < ns.length) : 0 < (pickNums ns none none (some 2)).length := by
  have hm : (0 : Nat) ∈ sliceRange (sliceBounds none none (some 2) ns.length).1 (sliceBounds none none (some 2) ns.length).2.1 (sliceBounds none none (some 2) ns.length).2.2 := by
    have e : sliceBounds none none (some 2) ns.length = (0, (ns.length : Int), 2) := by
      unfold sliceBounds
      simp
    rw [e]
    unfold sliceRange
    refine List.mem_map.mpr ⟨0, List.mem_range.mpr ?_, rfl⟩
    simp only [if_pos (show (2 : Int) > 0 by decide), if_pos (show (0 : Int) < (ns.length : Int) by omega)]
    omega
  exact List.length_pos_of_mem (List.mem_filterMap.mpr ⟨0, hm, List.getElem?_eq_getElem h⟩)
section
variable {P : Program} {w : World} {K : PySem.W.Frag} {mg : Str → Option Value} {base : Heap}
theorem S_law : FnScope ["_law_script", "_law_code", "_law_heights", "_law_depths", "_law_table_here", "_law_turn", "_law_row", "_law_at", "_law_square", "_law_wide", "_law_some"] ["_law_script"] (defScope (top 49)) := ⟨rfl, rfl, rfl, by decide +kernel, rfl, by decide +kernel, by decide +kernel⟩
set_option maxHeartbeats 8000000 in
theorem ok_law {f : Addr} {fd : FuncData} {Pt : Addr} (F : Fun K "law" "law" (top 49) f fd) (T : Nm mg) (c_law_turned : DefC P w K mg base 1 "_law_turned" ["_law_table_here"] (spTurned K))
    (c_law_table : DefC P w K mg base 1 "_law_table" ["_law_script"] (spTable K)) (c_law_right : DefC P w K mg base 21 "_law_right" ["_law_table_here"] (spRight K Pt)) : FnOk P w K mg base CX0 22 f fd ["_law_script"] (spLaw K Pt) := by
  have S := S_law
  refine F.ok S (fun vs H Q E h => ?_) (fun cdv A outer s H vs Q E hr h => ?_)
  · obtain ⟨a, ns, rfl, _⟩ := h
    rfl
  · obtain ⟨a, ns, rfl, hS1, hl, hP, q⟩ := h
    refine ⟨_, (pss_cons (ps_set (i := 1) S.nd rfl (by first | exact Or.inl rfl | exact Or.inr rfl) (pe_callB (call_sum rfl) (by rfl) T.n_sum bt_sum (pa_cons (pv 0) pa_nil)))
      (pss_cons (ps_asg (pe_tup (pa_cons (pe_comp (N := ["_law_cell"]) (lift := [none]) (.of (by kernel_rfl)) (pi_list (pe_slice3 (pv 0) po_none po_none (po_some pe_int))) (fun b => (pg_name (i := 0) (show (["_law_cell"] : List Str).Nodup from by decide +kernel) rfl (by first | exact Or.inl rfl | exact Or.inr rfl))) (fun b => pifs_nil) (fun b => (pe_op op_mod (pv 0) pe_int))) (pa_cons (pe_comp (N := ["_law_cell"]) (lift := [none]) (.of (by kernel_rfl)) (pi_list (pe_slice3 (pv 0) (po_some pe_int) po_none (po_some pe_int))) (fun b => (pg_name (i := 0) (show (["_law_cell"] : List Str).Nodup from by decide +kernel) rfl (by first | exact Or.inl rfl | exact Or.inr rfl))) (fun b => pifs_nil) (fun b => (pe_op op_mod (pv 0) pe_int))) pa_nil))) (pg_tup (n := 2) rfl (pgs_cons (pg_name (i := 2) S.nd rfl (by first | exact Or.inl rfl | exact Or.inr rfl)) (pgs_cons (pg_name (i := 3) S.nd rfl (by first | exact Or.inl rfl | exact Or.inr rfl)) pgs_nil))))
      (pss_cons (ps_comp (i := 4) S.nd rfl (by rfl) (N := ["_law_high", "_law_depths"]) (lift := [none, some 3]) (.of (by kernel_rfl)) (pi_list (pv 2)) (fun b => (pg_name (i := 0) (show (["_law_high", "_law_depths"] : List Str).Nodup from by decide +kernel) rfl (by first | exact Or.inl rfl | exact Or.inr rfl))) (fun b => pifs_nil) (fun b => (pe_bm PySem.F.plainAttrs_str PySem.F.slot_str_join PySem.F.type_str_join mt_join pe_str (pa_cons (pe_comp (N := ["_law_deep", "_law_high"]) (lift := [none, some 0]) (.of (by kernel_rfl)) (pi_list (pv 1)) (fun b => (pg_name (i := 0) (show (["_law_deep", "_law_high"] : List Str).Nodup from by decide +kernel) rfl (by first | exact Or.inl rfl | exact Or.inr rfl))) (fun b => pifs_nil) (fun b => (pe_ifExp (pt_cmpR op_gt (pv 1) (pv 0) (nomark _)) pe_str pe_str))) pa_nil))))
      (pss_cons (ps_for PassesOwn.never rfl (pi_range1 (by rfl) T.n_range (pa_cons (pe_ifExp (pt_cmpR (op_neL hr.units0) (pv 3) (pe_lst pa_nil) (nomark _)) (pe_op op_mul (pe_op op_fdiv (pe_op op_mod (pv 1) pe_int) pe_int) (pe_op op_add pe_int (pe_op op_mod (pv 1) pe_int))) pe_int) pa_nil)) (pg_name (i := 5) S.nd rfl (by first | exact Or.inl rfl | exact Or.inr rfl)) (pss_cons (ps_set (i := 6) S.nd rfl (by first | exact Or.inl rfl | exact Or.inr rfl) (pe_op op_mod (pe_op op_add (pe_op op_fdiv (pv 1) pe_int) (pe_op op_mul pe_int (pv 5))) (pe_callB call_len_seq (by rfl) T.n_len bt_len (pa_cons (pv 4) pa_nil))))
      (pss_cons (ps_set (i := 7) S.nd rfl (by first | exact Or.inl rfl | exact Or.inr rfl) (pe_op op_mod (pe_op op_add (pe_op op_fdiv (pv 1) pe_int) (pe_op op_mul pe_int (pv 5))) (pe_callB call_len_seq (by rfl) T.n_len bt_len (pa_cons (pv 3) pa_nil))))
      (pss_one (ps_asg (pe_op op_add_str (pe_op op_add_str (pe_slice sl_str (pe_ix ix_list (pv 4) (pv 6) (fun _ _ => rfl)) po_none (po_some (pv 7))) (pe_dget (hu_of hr) (pe_disp (pps_cons pe_str pe_str (pps_cons pe_str pe_str pps_nil)) rfl rfl (by simp) (by decide)) (pe_ix ix_str (pe_ix ix_list (pv 4) (pv 6) (fun _ _ => rfl)) (pv 7) (fun _ _ => rfl)) (fun _ _ => rfl))) (pe_slice sl_str (pe_ix ix_list (pv 4) (pv 6) (fun _ _ => rfl)) (po_some (pe_op op_add (pv 7) pe_int)) po_none)) (pg_sub (pv 4) (pv 6) set_list))))))
      (pss_cons (ps_set (i := 8) S.nd rfl (by first | exact Or.inl rfl | exact Or.inr rfl) (pe_callC c_law_table hr (by rfl) (pa_cons (pv 0) pa_nil)))
      (pss_cons (ps_comp (i := 9) S.nd rfl (by rfl) (N := ["_law_cell", "_law_code", "_law_script"]) (lift := [none, some 1, some 0]) (.of (by kernel_rfl)) (pi_list (pv 0)) (fun b => (pg_name (i := 0) (show (["_law_cell", "_law_code", "_law_script"] : List Str).Nodup from by decide +kernel) rfl (by first | exact Or.inl rfl | exact Or.inr rfl))) (fun b => pifs_nil) (fun b => (pe_bm PySem.F.plainAttrs_str PySem.F.slot_str_join PySem.F.type_str_join mt_join pe_str (pa_cons (pe_comp (N := ["_law_at", "_law_cell"]) (lift := [none, some 0]) (.of (by kernel_rfl)) (pi_range1 (by rfl) T.n_range (pa_cons (pe_op op_mod (pe_op op_fdiv (pv 1) pe_int) (pe_op op_add (pe_callB call_len_seq (by rfl) T.n_len bt_len (pa_cons (pv 2) pa_nil)) pe_int)) pa_nil)) (fun b => (pg_name (i := 0) (show (["_law_at", "_law_cell"] : List Str).Nodup from by decide +kernel) rfl (by first | exact Or.inl rfl | exact Or.inr rfl))) (fun b => pifs_nil) (fun b => (pe_ix ix_str pe_str (pe_op op_and (pe_op op_shr (pv 1) (pv 0)) pe_int) (fun _ _ => rfl)))) pa_nil))))
      (pss_cons (ps_for PassesOwn.never rfl (pi_list (pe_lst (pa_cons (pv 4) (pa_cons (pe_callC c_law_turned hr (by rfl) (pa_cons (pv 4) pa_nil)) (pa_cons (pe_slice sl_list (pv 8) po_none (po_some pe_int)) (pa_cons (pe_comp (N := ["_law_cell"]) (lift := [none]) (.of (by kernel_rfl)) (pi_list (pe_slice sl_list (pv 0) po_none (po_some pe_int))) (fun b => (pg_name (i := 0) (show (["_law_cell"] : List Str).Nodup from by decide +kernel) rfl (by first | exact Or.inl rfl | exact Or.inr rfl))) (fun b => pifs_nil) (fun b => pe_str)) (pa_cons (pv 9) (pa_cons (pe_callC c_law_turned hr (by rfl) (pa_cons (pv 9) pa_nil)) pa_nil)))))))) (pg_name (i := 10) S.nd rfl (by first | exact Or.inl rfl | exact Or.inr rfl)) (pss_one (ps_if (pt_not (pt_val (pe_callC c_law_right hr (by rfl) (pa_cons (pv 10) pa_nil)))) (pss_one (ps_ret pe_bl)) pss_nil)))
      (pss_one (ps_ret (pe_callC c_law_right hr (by rfl) (pa_cons (pv 8) pa_nil))))))))))), ?_⟩
    have hz : ns.length ≤ sizeLine := Nat.le_trans hl (by decide)
    -- code
    refine seq_cut (fun σ' H' => σ' = [some (.ref a), some (.int ns.sum), none, none, none, none, none, none, none, none, none] ∧ H' = H) (fun nx' hnx => ?_) ?_
    · dsimp only [cxComp, cxOf, Cx.wish, tRet, tRetN, tSeq, tNext, tIfS, tDrop, tNot, tB, tTest, tAnd, tOr, tAndV, tOrV, tNotV, tIf, tCB, tCons, tNil, tVar, tC, tOp, tUn, tBM, tBM0, tCall, tLst, tTup, tAsg, tPar, tSl, tSl3, tNoPart, tPart, tChain, tComp, tCompS, iList, iRng1, iRng2, iEnum, iZip, rI, rI0, rU, rEq, rNe, rIxL, rIxT, rIxS, rIx, rSlL, rSlS, rCat, rEqL, rIsi, rAppend, rPop, rSetL, gSub, tDGet, tDIn, sDPut, tDisp, tPairs, iZipX, rIsiO, tFld, tMeth, tMake, sFld, tOrO, iEnumT, tMaxD, tSortK, tDNewK]
      exact ⟨_, rfl, a, ns, rfl, hS1, hnx _ _ ⟨rfl, rfl⟩⟩
    rintro σ1 H1 ⟨rfl, rfl⟩
    generalize ns.sum = code
    -- heights, depths
    refine seq_cut (fun σ' H' => ∃ (B C : Addr) (hs ds : List Int), σ' = [some (.ref a), some (.int code), some (.ref B), some (.ref C), none, none, none, none, none, none, none] ∧ Same H1 H' ∧ H' B = some (.lst (hs.map V.int)) ∧ H' C = some (.lst (ds.map V.int)) ∧ hs.length ≤ 63 ∧ ds.length ≤ 63 ∧ (0 < ds.length → 0 < hs.length)) (fun nx' hnx => ?_) ?_
    · dsimp only [cxComp, cxOf, Cx.wish, tRet, tRetN, tSeq, tNext, tIfS, tDrop, tNot, tB, tTest, tAnd, tOr, tAndV, tOrV, tNotV, tIf, tCB, tCons, tNil, tVar, tC, tOp, tUn, tBM, tBM0, tCall, tLst, tTup, tAsg, tPar, tSl, tSl3, tNoPart, tPart, tChain, tComp, tCompS, iList, iRng1, iRng2, iEnum, iZip, rI, rI0, rU, rEq, rNe, rIxL, rIxT, rIxS, rIx, rSlL, rSlS, rCat, rEqL, rIsi, rAppend, rPop, rSetL, gSub, tDGet, tDIn, sDPut, tDisp, tPairs, iZipX, rIsiO, tFld, tMeth, tMake, sFld, tOrO, iEnumT, tMaxD, tSortK, tDNewK]
      refine ⟨_, rfl, _, rfl, (by decide), a, _, rfl, hS1, fun p hp => ⟨p, rfl, ⟨_, .of upd_same⟩, ?_⟩⟩
      have l1 := pick_len ns none none (some 2)
      have s2 : Same H1 (upd H1 p (.lst (pickV (ns.map V.int) none none (some 2)))) := (Same.refl H1).upd hp
      have e2 : (upd H1 p (.lst (pickV (ns.map V.int) none none (some 2)))) p = some (.lst (pickV (ns.map V.int) none none (some 2))) := upd_same
      generalize upd H1 p (.lst (pickV (ns.map V.int) none none (some 2))) = H2 at s2 e2 ⊢
      rw [pick_ints] at e2
      refine comp_list (intM fun z => .int (z % 7)) (.of e2) (by rw [List.length_map]; omega) (fun x hx => ?_) fun B H3 s3 n3 e3 => ?_
      · obtain ⟨z, _, rfl⟩ := List.mem_map.mp hx
        exact .map fun H3 k s3 hk => ⟨_, rfl, _, _, rfl, rfl, (show (0 : Int) < 7 by decide), hk _ (Same.refl _)⟩
      rw [intM_map, show (pickNums ns none none (some 2)).map (fun z => V.int (z % 7)) = ((pickNums ns none none (some 2)).map (· % 7)).map V.int from by rw [List.map_map]; rfl] at e3
      have s13 := s2.trans s3
      refine ⟨_, rfl, _, rfl, _, rfl, (by decide), a, _, rfl, s13.seq hS1, fun p2 hp2 => ⟨p2, rfl, ⟨_, .of upd_same⟩, ?_⟩⟩
      have l2 := pick_len ns (some 1) none (some 2)
      have s4 : Same H3 (upd H3 p2 (.lst (pickV (ns.map V.int) (some 1) none (some 2)))) := (Same.refl H3).upd hp2
      have e4 : (upd H3 p2 (.lst (pickV (ns.map V.int) (some 1) none (some 2)))) p2 = some (.lst (pickV (ns.map V.int) (some 1) none (some 2))) := upd_same
      generalize upd H3 p2 (.lst (pickV (ns.map V.int) (some 1) none (some 2))) = H4 at s4 e4 ⊢
      rw [pick_ints] at e4
      refine comp_list (intM fun z => .int (z % 7)) (.of e4) (by rw [List.length_map]; omega) (fun x hx => ?_) fun C H5 s5 n5 e5 => ?_
      · obtain ⟨z, _, rfl⟩ := List.mem_map.mp hx
        exact .map fun H3 k s3 hk => ⟨_, rfl, _, _, rfl, rfl, (show (0 : Int) < 7 by decide), hk _ (Same.refl _)⟩
      rw [intM_map, show (pickNums ns (some 1) none (some 2)).map (fun z => V.int (z % 7)) = ((pickNums ns (some 1) none (some 2)).map (· % 7)).map V.int from by rw [List.map_map]; rfl] at e5
      have s35 := s4.trans s5
      refine ⟨two_le, fun p3 hp3 => gPair_of (.of upd_same) (hnx _ _ ⟨B, C, (pickNums ns none none (some 2)).map (· % 7), (pickNums ns (some 1) none (some 2)).map (· % 7), rfl, (s13.trans s35).upd hp3, ?_, ?_, ?_, ?_, ?_⟩)⟩
      · rw [upd_ne (ne_of_none (s35 B _ e3) hp3)]
        exact s35 B _ e3
      · rw [upd_ne (ne_of_none e5 hp3)]
        exact e5
      · rw [List.length_map]; omega
      · rw [List.length_map]; omega
      · rw [List.length_map, List.length_map]
        intro h
        exact pick_pos (by omega)
    rintro σ2 H2 ⟨B, C, hs, ds, rfl, s2, eB, eC, lh, ld, pos⟩
    -- the table by heights
    refine seq_cut (fun σ' H' => ∃ (O : Addr) (ot : Tab), σ' = [some (.ref a), some (.int code), some (.ref B), some (.ref C), some (.ref O), none, none, none, none, none, none] ∧ Same H2 H' ∧ H2 O = none ∧ H' O = some (.lst (tabV ot)) ∧ ot.length = hs.length ∧ Wid ot ds.length) (fun nx' hnx => ?_) ?_
    · dsimp only [cxComp, cxOf, Cx.wish, tRet, tRetN, tSeq, tNext, tIfS, tDrop, tNot, tB, tTest, tAnd, tOr, tAndV, tOrV, tNotV, tIf, tCB, tCons, tNil, tVar, tC, tOp, tUn, tBM, tBM0, tCall, tLst, tTup, tAsg, tPar, tSl, tSl3, tNoPart, tPart, tChain, tComp, tCompS, iList, iRng1, iRng2, iEnum, iZip, rI, rI0, rU, rEq, rNe, rIxL, rIxT, rIxS, rIx, rSlL, rSlS, rCat, rEqL, rIsi, rAppend, rPop, rSetL, gSub, tDGet, tDIn, sDPut, tDisp, tPairs, iZipX, rIsiO, tFld, tMeth, tMake, sFld, tOrO, iEnumT, tMaxD, tSortK, tDNewK]
      refine ⟨_, rfl, B, rfl, ⟨_, .of eB⟩, comp_list (intM fun h => .str (rowS (ds.map fun d => decide (d < h)))) (.of eB) (by rw [List.length_map]; exact Nat.le_trans lh (by decide)) (fun x hx => ?_) fun D H3 s3 n3 e3 => ?_⟩
      · obtain ⟨h, _, rfl⟩ := List.mem_map.mp hx
        refine .map fun H3 k s3 hk => ?_
        have eC' := s3 C _ eC
        refine ⟨rfl, _, rfl, C, rfl, ⟨_, .of eC'⟩, comp_list (intM fun d => .str (oneS (decide (d < h)))) (.of eC') (by rw [List.length_map]; exact Nat.le_trans ld (by decide)) (fun x hx => ?_) fun D2 H4 s4 n4 e4 => ?_⟩
        · obtain ⟨d, _, rfl⟩ := List.mem_map.mp hx
          refine .map fun H4 k2 s4 hk2 => ?_
          refine ⟨_, rfl, _, rfl, _, _, rfl, rfl, _, rfl, ?_⟩
          have h2 := hk2 _ (Same.refl _)
          dsimp only at h2
          refine ite_cases (fun h => ?_) fun h => ?_
          · rw [h] at h2
            rw [x_is]
            exact h2
          · rw [h] at h2
            rw [m_is]
            exact h2
        · rw [intM_map, ones_map] at e4
          refine ⟨_, D2, _, rfl, rfl, .of e4, ?_, ?_⟩
          · rw [ones_sum, List.length_map, List.length_map, e_is]
            show _ + _ * 0 ≤ _
            omega
          · rw [join_ones]
            exact hk H4 s4
      rw [intM_map, tabV_map] at e3
      refine hnx _ _ ⟨D, _, rfl, s3, n3, e3, List.length_map _, ?_⟩
      intro r hr'
      obtain ⟨z, _, rfl⟩ := List.mem_map.mp hr'
      rw [List.length_map]
    rintro σ3 H3 ⟨O, ot, rfl, s3, nO, eO, tl, tw⟩
    -- signs turned
    refine seq_cut (fun σ' H' => ∃ (ot : Tab) (v5 v6 v7 : Option V), σ' = [some (.ref a), some (.int code), some (.ref B), some (.ref C), some (.ref O), v5, v6, v7, none, none, none] ∧ Same H2 H' ∧ H' O = some (.lst (tabV ot)) ∧ ot.length = hs.length ∧ Wid ot ds.length) (fun nx' hnx => ?_) ?_
    · have eC3 := s3 C _ eC
      refine for_cut (fun J H4 => ∃ m : Nat, J = Itr 0 m ∧ Same H2 H4 ∧ H4 O = some (.lst (tabV ot)) ∧ (0 < m → 0 < ds.length)) (fun R hR => ?_) ?_
      · dsimp only [cxComp, cxOf, Cx.wish, tRet, tRetN, tSeq, tNext, tIfS, tDrop, tNot, tB, tTest, tAnd, tOr, tAndV, tOrV, tNotV, tIf, tCB, tCons, tNil, tVar, tC, tOp, tUn, tBM, tBM0, tCall, tLst, tTup, tAsg, tPar, tSl, tSl3, tNoPart, tPart, tChain, tComp, tCompS, iList, iRng1, iRng2, iEnum, iZip, rI, rI0, rU, rEq, rNe, rIxL, rIxT, rIxS, rIx, rSlL, rSlS, rCat, rEqL, rIsi, rAppend, rPop, rSetL, gSub, tDGet, tDIn, sDPut, tDisp, tPairs, iZipX, rIsiO, tFld, tMeth, tMake, sFld, tOrO, iEnumT, tMaxD, tSortK, tDNewK]
        refine ⟨_, rfl, Nat.zero_le _, fun p hp => ⟨C, p, _, _, rfl, rfl, .of ((Same.refl H3).upd hp C _ eC3), .of upd_same, (by rw [List.all_map]; simp [flatV]), rfl, _, rfl, ?_⟩⟩
        have s9 : Same H3 (upd H3 p (.lst [])) := (Same.refl H3).upd hp
        generalize upd H3 p (.lst []) = H9 at s9 ⊢
        by_cases h0 : 0 < ds.length
        · refine iteTb (by rw [eqVs_len (by rw [List.length_map]; show ds.length ≠ 0; omega)]; rfl) ?_
          have hv : 0 ≤ code % 4 / 2 * (1 + code % 2) ∧ code % 4 / 2 * (1 + code % 2) ≤ 2 := by
            have h1 : code % 4 / 2 = 0 ∨ code % 4 / 2 = 1 := by omega
            rcases h1 with h | h <;> rw [h] <;> omega
          refine ⟨_, rfl, _, _, rfl, rfl, (show (0 : Int) < 4 by decide), _, _, rfl, rfl, ⟨by decide, by decide⟩, _, rfl, _, _, rfl, rfl, (show (0 : Int) < 2 by decide), _, _, rfl, rfl, _, _, rfl, rfl, .inl ⟨by omega, by omega⟩, ?_⟩
          generalize code % 4 / 2 * (1 + code % 2) = v at hv ⊢
          exact ⟨_, rfl, by omega, by omega, hR _ _ ⟨v.toNat, rfl, s3.trans s9, s9 O _ eO, fun _ => h0⟩⟩
        · have : ds = [] := List.length_eq_zero_iff.mp (by omega)
          subst this
          exact iteFb rfl ⟨_, rfl, by decide, by decide, hR _ _ ⟨0, rfl, s3.trans s9, s9 O _ eO, fun h => absurd h (Nat.lt_irrefl _)⟩⟩
      · rintro J H4 ⟨m, rfl, s4, eO4, hm⟩
        refine for_rangeW (fun i σ H' => ∃ (t : Tab) (v5 v6 v7 : Option V), σ = [some (.ref a), some (.int code), some (.ref B), some (.ref C), some (.ref O), v5, v6, v7, none, none, none] ∧ Same H2 H' ∧ H' O = some (.lst (tabV t)) ∧ t.length = hs.length ∧ Wid t ds.length) ⟨ot, none, none, none, rfl, s4, eO4, tl, tw⟩ ?_ fun σ H' h => hnx _ _ h
        rintro i σ H5 hi ⟨t, v5, v6, v7, rfl, s5, e5, tl, tw⟩
        have hds := hm (by omega)
        have hhs := pos hds
        dsimp only [gName]
        have hh : (0 : Int) < ((tabV t).length : Nat) := by
          rw [tabV_len]
          omega
        have hd2 : (0 : Int) < ((ds.map V.int).length : Nat) := by
          rw [List.length_map]
          omega
        refine seq_cut (fun σ' H' => ∃ x : Nat, x < hs.length ∧ σ' = [some (.ref a), some (.int code), some (.ref B), some (.ref C), some (.ref O), some (.int (0 + i)), some (.int x), v7, none, none, none] ∧ H' = H5) (fun nx2 hnx2 => ?_) ?_
        · dsimp only [cxComp, cxOf, Cx.wish, tRet, tRetN, tSeq, tNext, tIfS, tDrop, tNot, tB, tTest, tAnd, tOr, tAndV, tOrV, tNotV, tIf, tCB, tCons, tNil, tVar, tC, tOp, tUn, tBM, tBM0, tCall, tLst, tTup, tAsg, tPar, tSl, tSl3, tNoPart, tPart, tChain, tComp, tCompS, iList, iRng1, iRng2, iEnum, iZip, rI, rI0, rU, rEq, rNe, rIxL, rIxT, rIxS, rIx, rSlL, rSlS, rCat, rEqL, rIsi, rAppend, rPop, rSetL, gSub, tDGet, tDIn, sDPut, tDisp, tPairs, iZipX, rIsiO, tFld, tMeth, tMake, sFld, tOrO, iEnumT, tMaxD, tSortK, tDNewK]
          refine ⟨_, rfl, _, _, rfl, rfl, ⟨by decide, by decide⟩, _, rfl, _, _, rfl, rfl, .inl ⟨by decide, by decide⟩, _, _, rfl, rfl, _, rfl, O, _, rfl, .inl (.of e5), _, _, rfl, rfl, hh, ?_⟩
          have h1 := Int.emod_nonneg (code / 4 + 5 * (0 + (i : Int))) (show (((tabV t).length : Nat) : Int) ≠ 0 by omega)
          have h2 := Int.emod_lt_of_pos (code / 4 + 5 * (0 + (i : Int))) hh
          rw [tabV_len] at h1 h2 ⊢
          obtain ⟨x, ex, hx⟩ : ∃ x : Nat, (code / 4 + 5 * (0 + (i : Int))) % (t.length : Nat) = (x : Int) ∧ x < hs.length := ⟨((code / 4 + 5 * (0 + (i : Int))) % (t.length : Nat)).toNat, by omega, by omega⟩
          rw [ex]
          exact hnx2 _ _ ⟨x, hx, rfl, rfl⟩
        rintro σ6 H6 ⟨x, hx, rfl, rfl⟩
        refine seq_cut (fun σ' H' => ∃ y : Nat, y < ds.length ∧ σ' = [some (.ref a), some (.int code), some (.ref B), some (.ref C), some (.ref O), some (.int (0 + i)), some (.int x), some (.int y), none, none, none] ∧ H' = H6) (fun nx2 hnx2 => ?_) ?_
        · dsimp only [cxComp, cxOf, Cx.wish, tRet, tRetN, tSeq, tNext, tIfS, tDrop, tNot, tB, tTest, tAnd, tOr, tAndV, tOrV, tNotV, tIf, tCB, tCons, tNil, tVar, tC, tOp, tUn, tBM, tBM0, tCall, tLst, tTup, tAsg, tPar, tSl, tSl3, tNoPart, tPart, tChain, tComp, tCompS, iList, iRng1, iRng2, iEnum, iZip, rI, rI0, rU, rEq, rNe, rIxL, rIxT, rIxS, rIx, rSlL, rSlS, rCat, rEqL, rIsi, rAppend, rPop, rSetL, gSub, tDGet, tDIn, sDPut, tDisp, tPairs, iZipX, rIsiO, tFld, tMeth, tMake, sFld, tOrO, iEnumT, tMaxD, tSortK, tDNewK]
          refine ⟨_, rfl, _, _, rfl, rfl, ⟨by decide, by decide⟩, _, rfl, _, _, rfl, rfl, .inl ⟨by decide, by decide⟩, _, _, rfl, rfl, _, rfl, C, _, rfl, .inl (.of (s5 C _ eC)), _, _, rfl, rfl, hd2, ?_⟩
          have h1 := Int.emod_nonneg (code / 9 + 3 * (0 + (i : Int))) (show (((ds.map V.int).length : Nat) : Int) ≠ 0 by omega)
          have h2 := Int.emod_lt_of_pos (code / 9 + 3 * (0 + (i : Int))) hd2
          rw [List.length_map] at h1 h2 ⊢
          obtain ⟨y, ey, hy⟩ : ∃ y : Nat, (code / 9 + 3 * (0 + (i : Int))) % (ds.length : Nat) = (y : Int) ∧ y < ds.length := ⟨((code / 9 + 3 * (0 + (i : Int))) % (ds.length : Nat)).toNat, by omega, by omega⟩
          rw [ey]
          exact hnx2 _ _ ⟨y, hy, rfl, rfl⟩
        rintro σ7 H7 ⟨y, hy, rfl, rfl⟩
        dsimp only [cxComp, cxOf, Cx.wish, tRet, tRetN, tSeq, tNext, tIfS, tDrop, tNot, tB, tTest, tAnd, tOr, tAndV, tOrV, tNotV, tIf, tCB, tCons, tNil, tVar, tC, tOp, tUn, tBM, tBM0, tCall, tLst, tTup, tAsg, tPar, tSl, tSl3, tNoPart, tPart, tChain, tComp, tCompS, iList, iRng1, iRng2, iEnum, iZip, rI, rI0, rU, rEq, rNe, rIxL, rIxT, rIxS, rIx, rSlL, rSlS, rCat, rEqL, rIsi, rAppend, rPop, rSetL, gSub, tDGet, tDIn, sDPut, tDisp, tPairs, iZipX, rIsiO, tFld, tMeth, tMake, sFld, tOrO, iEnumT, tMaxD, tSortK, tDNewK]
        obtain ⟨r, er⟩ : ∃ r, t[x]? = some r := ⟨_, List.getElem?_eq_getElem (by omega)⟩
        have hw : r.length = ds.length := tw r (List.mem_of_getElem? er)
        have hyr : y < r.length := by omega
        have rs : (rowS r).length ≤ sizeLine := row_size (by omega)
        have at1 : atI (tabV t) (x : Int) = some (.str (rowS r)) := atI_nat (tabV_get er)
        -- the row's part ahead
        refine ⟨_, rfl, _, rfl, O, _, _, _, rfl, rfl, .of e5, at1, _, rfl, _, rfl, _, rfl, rs, ?_⟩
        -- the sign turned
        intro p2 hp2
        have hDp : O ≠ p2 := ne_of_none e5 hp2
        refine ⟨upd_same, [(Sum.inr (Str.ofString "x"), .str (Str.ofString "-")), (Sum.inr (Str.ofString "-"), .str (Str.ofString "x"))], rfl, by decide, ?_⟩
        rw [upd_upd]
        have e6 : ∀ o, (upd H7 p2 o) O = some (.lst (tabV t)) := fun o => by rw [upd_ne hDp]; exact e5
        refine ⟨_, rfl, _, rfl, O, _, _, _, rfl, rfl, .of (e6 _), at1, _, rfl, _, _, _, rfl, rfl, rs, row_at hyr, p2, .str (oneS (!(r.getD y false))), rfl, ?_, ?_⟩
        · have := DGet.k (k := Sum.inr ⟨#[sgn (r.getD y false)]⟩) (upd_same (H := H7) (a := p2) (o := .dK (mergeK [] [(Sum.inr (Str.ofString "x"), .str (Str.ofString "-")), (Sum.inr (Str.ofString "-"), .str (Str.ofString "x"))])))
          have e7 : valV (mergeK [] [(Sum.inr (Str.ofString "x"), .str (Str.ofString "-")), (Sum.inr (Str.ofString "-"), .str (Str.ofString "x"))]) (Sum.inr ⟨#[sgn (r.getD y false)]⟩) = some (.str (oneS (!(r.getD y false)))) := by
            rw [x_is, m_is]
            cases r.getD y false <;> rfl
          rw [e7] at this
          exact this
        -- put together
        have l1 := cutS_len (rowS r) none (some (y : Int))
        have l2 := cutS_len (rowS r) (some ((y : Int) + 1)) none
        have l3 : (rowS r).length = ds.length := by rw [rowS_len, hw]
        have l4 : (oneS (!(r.getD y false))).length = 1 := rfl
        refine ⟨_, _, rfl, rfl, by rw [l4]; exact Nat.le_trans (by omega) (show 200 ≤ sizeLine by decide), ?_⟩
        refine ⟨_, rfl, _, rfl, O, _, _, _, rfl, rfl, .of (e6 _), at1, _, rfl, _, _, rfl, rfl, _, rfl, _, rfl, rs, _, _, rfl, rfl, ?_, ?_⟩
        · rw [Str.length_append, l4]
          exact Nat.le_trans (by omega) (show 200 ≤ sizeLine by decide)
        rw [flip_row hyr]
        refine ⟨_, rfl, _, rfl, O, _, _, x, rfl, rfl, e6 _, ixN_nat (by rw [tabV_len]; omega), ?_⟩
        refine ⟨t.set x (r.set y (!(r.getD y false))), _, _, _, rfl, ?_, ?_, by rw [List.length_set]; exact tl, set_wid tw (by rw [List.length_set]; exact hw)⟩
        · intro b o hb
          have n1 : b ≠ O := fun z => by rw [z] at hb; rw [nO] at hb; cases hb
          rw [upd_ne n1, upd_ne (ne_of_none (s5 b o hb) hp2)]
          exact s5 b o hb
        · rw [upd_same]
          unfold tabV
          rw [List.map_set]
    clear eO tl tw ot
    rintro σ4 H4 ⟨ot, v5, v6, v7, rfl, s4, eO, tl, tw⟩
    have tO : Tb K H4 O ot ds.length := ⟨.of eO, tw, by omega, by omega⟩
    have hS4 := (s2.trans s4).seq hS1
    -- the square one
    refine seq_cut (fun σ' H' => ∃ (Z : Addr) (zt : Tab), σ' = [some (.ref a), some (.int code), some (.ref B), some (.ref C), some (.ref O), v5, v6, v7, some (.ref Z), none, none] ∧ Same H4 H' ∧ Tb K H' Z zt ns.length ∧ zt.length = ns.length) (fun nx' hnx => ?_) ?_
    · dsimp only [cxComp, cxOf, Cx.wish, tRet, tRetN, tSeq, tNext, tIfS, tDrop, tNot, tB, tTest, tAnd, tOr, tAndV, tOrV, tNotV, tIf, tCB, tCons, tNil, tVar, tC, tOp, tUn, tBM, tBM0, tCall, tLst, tTup, tAsg, tPar, tSl, tSl3, tNoPart, tPart, tChain, tComp, tCompS, iList, iRng1, iRng2, iEnum, iZip, rI, rI0, rU, rEq, rNe, rIxL, rIxT, rIxS, rIx, rSlL, rSlS, rCat, rEqL, rIsi, rAppend, rPop, rSetL, gSub, tDGet, tDIn, sDPut, tDisp, tPairs, iZipX, rIsiO, tFld, tMeth, tMake, sFld, tOrO, iEnumT, tMaxD, tSortK, tDNewK]
      exact ⟨_, rfl, a, ns, rfl, hS4, hl, fun D H' t s' _ e tl tw => hnx _ _ ⟨D, t, rfl, s', ⟨.of e, tw, by omega, by omega⟩, tl⟩⟩
    rintro σ5 H5 ⟨Z, zt, rfl, s5, tZ, zl⟩
    have hS5 := s5.seq hS4
    -- the wide one
    refine seq_cut (fun σ' H' => ∃ (W : Addr) (wt : Tab) (m : Nat), σ' = [some (.ref a), some (.int code), some (.ref B), some (.ref C), some (.ref O), v5, v6, v7, some (.ref Z), some (.ref W), none] ∧ Same H5 H' ∧ Tb K H' W wt m ∧ wt.length ≤ 63 ∧ m ≤ 64) (fun nx' hnx => ?_) ?_
    · dsimp only [cxComp, cxOf, Cx.wish, tRet, tRetN, tSeq, tNext, tIfS, tDrop, tNot, tB, tTest, tAnd, tOr, tAndV, tOrV, tNotV, tIf, tCB, tCons, tNil, tVar, tC, tOp, tUn, tBM, tBM0, tCall, tLst, tTup, tAsg, tPar, tSl, tSl3, tNoPart, tPart, tChain, tComp, tCompS, iList, iRng1, iRng2, iEnum, iZip, rI, rI0, rU, rEq, rNe, rIxL, rIxT, rIxS, rIx, rSlL, rSlS, rCat, rEqL, rIsi, rAppend, rPop, rSetL, gSub, tDGet, tDIn, sDPut, tDisp, tPairs, iZipX, rIsiO, tFld, tMeth, tMake, sFld, tOrO, iEnumT, tMaxD, tSortK, tDNewK]
      have hp : (0 : Int) < ((ns.map V.int).length : Nat) + 2 := by omega
      have h1 := Int.emod_nonneg (code / 5) (show ((ns.length : Nat) : Int) + 2 ≠ 0 by omega)
      have h2 := Int.emod_lt_of_pos (code / 5) (show (0 : Int) < (ns.length : Nat) + 2 by omega)
      obtain ⟨m, em, hm⟩ : ∃ m : Nat, code / 5 % (((ns.length : Nat) : Int) + 2) = (m : Int) ∧ m ≤ 64 := ⟨(code / 5 % (((ns.length : Nat) : Int) + 2)).toNat, by omega, by omega⟩
      refine ⟨_, rfl, a, rfl, ⟨_, hS5⟩, comp_list (intM fun z => .str (rowS ((List.range m).map (bitB z)))) hS5 (by rw [List.length_map]; exact hz) (fun x hx => ?_) fun D H6 s6 n6 e6 => ?_⟩
      · obtain ⟨z, _, rfl⟩ := List.mem_map.mp hx
        refine .map fun H6 k s6 hk => ?_
        refine ⟨rfl, _, rfl, _, _, rfl, rfl, ⟨by decide, by decide⟩, _, rfl, a, _, rfl, .inl (s6.seq hS5), _, _, rfl, rfl, _, _, rfl, rfl, hp, ?_⟩
        dsimp only [cxComp, cxOf, Cx.wish, tRet, tRetN, tSeq, tNext, tIfS, tDrop, tNot, tB, tTest, tAnd, tOr, tAndV, tOrV, tNotV, tIf, tCB, tCons, tNil, tVar, tC, tOp, tUn, tBM, tBM0, tCall, tLst, tTup, tAsg, tPar, tSl, tSl3, tNoPart, tPart, tChain, tComp, tCompS, iList, iRng1, iRng2, iEnum, iZip, rI, rI0, rU, rEq, rNe, rIxL, rIxT, rIxS, rIx, rSlL, rSlS, rCat, rEqL, rIsi, rAppend, rPop, rSetL, gSub, tDGet, tDIn, sDPut, tDisp, tPairs, iZipX, rIsiO, tFld, tMeth, tMake, sFld, tOrO, iEnumT, tMaxD, tSortK, tDNewK]
        rw [List.length_map, em]
        refine ⟨_, rfl, (by omega), (by omega), ?_⟩
        rw [Int.toNat_natCast]
        refine comp_range (fun i => some (.str (oneS (bitB z i)))) (Nat.le_trans hm (by decide)) (fun i hi => .map fun H7 k2 s7 hk2 => ?_) fun D2 H7 s7 n7 e7 => ?_
        · refine ⟨_, rfl, _, rfl, _, _, rfl, rfl, (by omega), _, _, rfl, rfl, _, _, _, rfl, rfl, (by decide), mx_at _, ?_⟩
          have e : (0 + (i : Int)).toNat = i := by omega
          rw [e]
          exact hk2 _ (Same.refl _)
        · rw [fm_some, ones_map] at e7
          refine ⟨_, D2, _, rfl, rfl, .of e7, ?_, ?_⟩
          · rw [ones_sum, List.length_map, List.length_range, e_is]
            show _ + _ * 0 ≤ _
            omega
          · rw [join_ones]
            exact hk H7 s7
      · rw [intM_map, tabV_map] at e6
        refine hnx _ _ ⟨D, _, m, rfl, s6, ⟨.of e6, ?_, by rw [List.length_map]; omega, by omega⟩, by rw [List.length_map]; omega, hm⟩
        intro r hr'
        obtain ⟨z, _, rfl⟩ := List.mem_map.mp hr'
        simp
    rintro σ6 H6 ⟨W, wt, m, rfl, s6, tW, lW, m64⟩
    have hS6 := s6.seq hS5
    have tZ6 := tZ.same s6
    have tO6 := tO.same (s5.trans s6)
    have hP7 : TabH H6 Pt := hP.same (s2.trans (s4.trans (s5.trans s6)))
    -- each of six
    refine seq_cut (fun σ' H' => ∃ v10, σ' = [some (.ref a), some (.int code), some (.ref B), some (.ref C), some (.ref O), v5, v6, v7, some (.ref Z), some (.ref W), v10] ∧ Same H6 H') (fun nx' hnx => ?_) ?_
    · refine for_cut (fun J H7 => ∃ (L : Addr) (ls : List Addr), J = Itl K L ∧ H7 L = some (.lst (ls.map V.ref)) ∧ (∀ x ∈ ls, ∃ t n, Tb K H7 x t n ∧ t.length ≤ 64) ∧ Same H6 H7) (fun R hR => ?_) ?_
      · dsimp only [cxComp, cxOf, Cx.wish, tRet, tRetN, tSeq, tNext, tIfS, tDrop, tNot, tB, tTest, tAnd, tOr, tAndV, tOrV, tNotV, tIf, tCB, tCons, tNil, tVar, tC, tOp, tUn, tBM, tBM0, tCall, tLst, tTup, tAsg, tPar, tSl, tSl3, tNoPart, tPart, tChain, tComp, tCompS, iList, iRng1, iRng2, iEnum, iZip, rI, rI0, rU, rEq, rNe, rIxL, rIxT, rIxS, rIx, rSlL, rSlS, rCat, rEqL, rIsi, rAppend, rPop, rSetL, gSub, tDGet, tDIn, sDPut, tDisp, tPairs, iZipX, rIsiO, tFld, tMeth, tMake, sFld, tOrO, iEnumT, tMaxD, tSortK, tDNewK]
        refine ⟨_, rfl, _, rfl, O, ot, _, rfl, tO6, fun D1 H7 s7 _ e7 => ⟨_, rfl, _, rfl, Z, _, rfl, (tZ6.same s7).at', fun p hp => ?_⟩⟩
        rw [show cutV (tabV zt) none (some 9) = tabV (zt.take 9) from cut_tab zt 9]
        have s8 : Same H7 (upd H7 p (.lst (tabV (zt.take 9)))) := (Same.refl H7).upd hp
        have e8 : (upd H7 p (.lst (tabV (zt.take 9)))) p = some (.lst (tabV (zt.take 9))) := upd_same
        generalize upd H7 p (.lst (tabV (zt.take 9))) = H8 at s8 e8 ⊢
        refine ⟨_, rfl, _, rfl, a, _, rfl, (s7.trans s8).seq hS6, fun p2 hp2 => ⟨p2, rfl, ⟨_, .of upd_same⟩, ?_⟩⟩
        have l9 := cutV_length (ns.map V.int) none (some 5)
        rw [List.length_map] at l9
        have s9 : Same H8 (upd H8 p2 (.lst (cutV (ns.map V.int) none (some 5)))) := (Same.refl H8).upd hp2
        have e9 : (upd H8 p2 (.lst (cutV (ns.map V.int) none (some 5)))) p2 = some (.lst (cutV (ns.map V.int) none (some 5))) := upd_same
        generalize upd H8 p2 (.lst (cutV (ns.map V.int) none (some 5))) = H9 at s9 e9 ⊢
        generalize cutV (ns.map V.int) none (some 5) = five at l9 e9
        refine comp_list (fun _ => some (.str (rowS []))) (.of e9) (by omega) (fun x hx => .map fun H10 k s10 hk => hk _ (Same.refl _)) fun D4 H10 s10 n10 e10 => ?_
        rw [fm_some, show five.map (fun _ => V.str (rowS [])) = tabV (five.map fun _ => []) from by unfold tabV; rw [List.map_map]; rfl] at e10
        have s610 : Same H6 H10 := s7.trans (s8.trans (s9.trans s10))
        refine ⟨_, rfl, _, rfl, W, wt, m, rfl, tW.same s610, fun D6 H11 s11 _ e11 => ⟨Nat.le_trans (Nat.le_of_eq rfl) (show 6 ≤ sizeLine by decide), fun L hL => ⟨L, rfl, ⟨_, .of upd_same⟩, hR _ _ ⟨L, [O, D1, p, D4, W, D6], rfl, upd_same, ?_, (s610.trans s11).upd hL⟩⟩⟩⟩
        have s12 : ∀ o, Same H11 (upd H11 L o) := fun o => (Same.refl H11).upd hL
        intro x hx
        simp only [List.mem_cons, List.mem_nil_iff, or_false] at hx
        rcases hx with rfl | rfl | rfl | rfl | rfl | rfl
        · exact ⟨_, _, tO6.same ((s610.trans s11).trans (s12 _)), by omega⟩
        · exact ⟨_, _, (tO6.turn e7).same ((s8.trans (s9.trans (s10.trans s11))).trans (s12 _)), by rw [turnT_len]; have := widT_le tO6; omega⟩
        · refine ⟨_, ns.length, Tb.same ⟨.of e8, fun r hr' => tZ.wid r (List.mem_of_mem_take hr'), ?_, by omega⟩ ((s9.trans (s10.trans s11)).trans (s12 _)), ?_⟩ <;>
          (rw [List.length_take]; omega)
        · refine ⟨_, 0, Tb.same ⟨.of e10, fun r hr' => ?_, ?_, by decide⟩ (s11.trans (s12 _)), by rw [List.length_map]; omega⟩
          · obtain ⟨z, _, rfl⟩ := List.mem_map.mp hr'
            rfl
          · rw [List.length_map]
            omega
        · exact ⟨_, _, tW.same ((s610.trans s11).trans (s12 _)), by omega⟩
        · exact ⟨_, _, ((tW.same s610).turn e11).same (s12 _), by rw [turnT_len]; have := widT_le tW; omega⟩
      · rintro J H7 ⟨L, ls, rfl, eL, hls, s7⟩
        refine for_listW (xs := ls.map V.ref) (fun i σ H' => ∃ v10, σ = [some (.ref a), some (.int code), some (.ref B), some (.ref C), some (.ref O), v5, v6, v7, some (.ref Z), some (.ref W), v10] ∧ Same H7 H') ⟨none, rfl, Same.refl _⟩ (fun i σ H' _ ⟨_, _, s'⟩ => .of (s' L _ eL)) ?_ fun σ H' ⟨v10, e, s'⟩ => hnx _ _ ⟨v10, e, s7.trans s'⟩
        rintro i x σ H8 hx ⟨v10, rfl, s8⟩
        obtain ⟨y, hy, rfl⟩ := List.mem_map.mp (List.mem_of_getElem? hx)
        obtain ⟨t, n, ty, t64⟩ := hls y hy
        dsimp only [gName]
        dsimp only [cxComp, cxOf, Cx.wish, tRet, tRetN, tSeq, tNext, tIfS, tDrop, tNot, tB, tTest, tAnd, tOr, tAndV, tOrV, tNotV, tIf, tCB, tCons, tNil, tVar, tC, tOp, tUn, tBM, tBM0, tCall, tLst, tTup, tAsg, tPar, tSl, tSl3, tNoPart, tPart, tChain, tComp, tCompS, iList, iRng1, iRng2, iEnum, iZip, rI, rI0, rU, rEq, rNe, rIxL, rIxT, rIxS, rIx, rSlL, rSlS, rCat, rEqL, rIsi, rAppend, rPop, rSetL, gSub, tDGet, tDIn, sDPut, tDisp, tPairs, iZipX, rIsiO, tFld, tMeth, tMake, sFld, tOrO, iEnumT, tMaxD, tSortK, tDNewK]
        exact ⟨_, rfl, y, t, n, rfl, ty.same s8, t64, hP7.same (s7.trans s8), fun H9 s9 => ⟨_, rfl, iteFb rfl ⟨_, rfl, s8.trans s9⟩⟩⟩
    rintro σ7 H7 ⟨v10, rfl, s7⟩
    dsimp only [cxComp, cxOf, Cx.wish, tRet, tRetN, tSeq, tNext, tIfS, tDrop, tNot, tB, tTest, tAnd, tOr, tAndV, tOrV, tNotV, tIf, tCB, tCons, tNil, tVar, tC, tOp, tUn, tBM, tBM0, tCall, tLst, tTup, tAsg, tPar, tSl, tSl3, tNoPart, tPart, tChain, tComp, tCompS, iList, iRng1, iRng2, iEnum, iZip, rI, rI0, rU, rEq, rNe, rIxL, rIxT, rIxS, rIx, rSlL, rSlS, rCat, rEqL, rIsi, rAppend, rPop, rSetL, gSub, tDGet, tDIn, sDPut, tDisp, tPairs, iZipX, rIsiO, tFld, tMeth, tMake, sFld, tOrO, iEnumT, tMaxD, tSortK, tDNewK]
    exact ⟨_, rfl, Z, zt, _, rfl, tZ6.same s7, (by omega), hP7.same s7, fun H8 _ => q H8⟩
end
end Wa
namespace Wa
open PySem PySem.Spec PyProof.Rows L2
theorem sq_keep {K : PySem.W.Frag} {H H' : Hp} {a x C dx : Addr} {fs : List (Str × V)} {xs : List V} (k : ∀ b o, H b = some o → b ≠ x → H' b = some o) (hx : H x = some (.ins C dx fs)) (h : SqL K H a xs) : SqL K H' a xs := by
  rcases h with h | h
  · rcases h with e | ⟨o, e⟩
    · exact .inl (.inl (k _ _ e (ne_of e hx (by intro z; cases z))))
    · exact .inl (.inr ⟨o, k _ _ e (ne_of e hx (by intro z; cases z))⟩)
  · exact .inr h
/-- a new list, then a field -/
theorem put_step {H : Hp} {x R C dx : Addr} {fs fs' : List (Str × V)} {ys : List V} (hx : H x = some (.ins C dx fs)) (hR : H R = none) :
    (∀ b o, H b = some o → b ≠ x → (upd (upd H R (.lst ys)) x (.ins C dx fs')) b = some o) ∧ (upd (upd H R (.lst ys)) x (.ins C dx fs')) R = some (.lst ys) ∧ (upd (upd H R (.lst ys)) x (.ins C dx fs')) x = some (.ins C dx fs') ∧
    ∀ b, (upd (upd H R (.lst ys)) x (.ins C dx fs')) b = none → H b = none := by
  have nx := ne_of_none hx hR
  refine ⟨fun b o e n => ?_, ?_, upd_same, fun b e => ?_⟩
  · rw [upd_ne n, upd_ne (ne_of_none e hR)]; exact e
  · rw [upd_ne nx.symm]; exact upd_same
  · by_cases hb : b = x
    · rw [hb, upd_same] at e; cases e
    · rw [upd_ne hb] at e
      by_cases hc : b = R
      · rw [hc, upd_same] at e; cases e
      · rw [upd_ne hc] at e; exact e
def spMkSt (K : PySem.W.Frag) (cl : Str → Addr) : Sp := fun vs H Q _ => ∃ x dx A B, ∃ ns ms : List Int, vs = [.ref x, .ref A, .ref B] ∧ SqL K H A (ns.map V.int) ∧ SqL K H B (ms.map V.int) ∧ H x = some (.ins (cl "Steps") dx []) ∧
  ∀ R1 R2 H', H R1 = none → H R2 = none → R1 ≠ R2 → (∀ b o, H b = some o → b ≠ x → H' b = some o) → H' R1 = some (.lst (ns.map V.int)) → H' R2 = some (.lst (ms.map V.int)) → Is K cl H' x "Steps" (stepsF R1 R2) → Q .non H'
def spOpp (K : PySem.W.Frag) : Sp := fun vs H Q _ => ∃ A, ∃ ns : List Int, vs = [.ref A] ∧ SqL K H A (ns.map V.int) ∧ ns.length ≤ 100 ∧ ∀ D H', Same H H' → H D = none → H' D = some (.lst ((ns.map fun z => -z).map V.int)) → Q (.ref D) H'
theorem less_opp {t : Tab} {w : Nat} (hw : Wid t w) {ns ms : List Int} (h1 : ns.length = t.length) (h2 : ms.length = widT t) : lessT t (ns.map fun z => -z) (ms.map fun z => -z) = stepsT t ns ms := by
  unfold lessT stepsT
  rw [h1, h2, beq_self_eq_true, beq_self_eq_true, Bool.true_and, Bool.true_and]
  rw [Bool.eq_iff_iff, List.all_eq_true, List.all_eq_true]
  have key : ∀ i, i ∈ List.range t.length → ((t.getD i [] == (ms.map fun z => -z).map fun m => decide ((ns.map fun z => -z).getD i 0 < m)) = rowT (t.getD i []) (ns.getD i 0) ms) := fun i hi => by
    have hi' := List.mem_range.mp hi
    obtain ⟨r, er⟩ := row_of hi'
    have hr := hw r (List.mem_of_getElem? er)
    have hwd : widT t = w := wid_head hw (fun e => by rw [e] at hi'; simp at hi')
    have hn : (ns.map fun z => -z).getD i 0 = -(ns.getD i 0) := by simp [show i < ns.length by omega]
    rw [show t.getD i [] = r from by simp [er], rowL (by rw [List.length_map]; omega), hn]
    unfold rowT
    rw [List.length_map]
    rw [Bool.eq_iff_iff, List.all_eq_true, List.all_eq_true]
    have k2 : ∀ j, j ∈ List.range ms.length → (decide (-(ns.getD i 0) < (ms.map fun z => -z).getD j 0) = decide (ns.getD i 0 > ms.getD j 0)) := fun j hj => by
      have hm : (ms.map fun z => -z).getD j 0 = -(ms.getD j 0) := by simp [List.mem_range.mp hj]
      rw [hm]
      congr 1
      apply propext
      omega
    exact ⟨fun h j hj => by rw [← k2 j hj]; exact h j hj, fun h j hj => by rw [k2 j hj]; exact h j hj⟩
  exact ⟨fun h i hi => by rw [← key i hi]; exact h i hi, fun h i hi => by rw [key i hi]; exact h i hi⟩
section
variable {P : Program} {w : World} {K : PySem.W.Frag} {mg : Str → Option Value} {base : Heap}
theorem S_Steps_init : FnScope ["self", "rows", "columns"] ["self", "rows", "columns"] (defScope (inClass (top 22) 0)) := ⟨rfl, rfl, rfl, by decide +kernel, rfl, by decide +kernel, by decide +kernel⟩
theorem ok_Steps_init {f : Addr} {fd : FuncData} {cl : Str → Addr} (F : Fun K "__init__" "Steps.__init__" (inClass (top 22) 0) f fd) (T : Nm mg) (G : Ks K mg cl) (N : Nas K cl) : FnOk P w K mg base CX0 1 f fd ["self", "rows", "columns"] (spMkSt K cl) := by
  have S := S_Steps_init
  refine F.ok S (fun vs H Q E h => ?_) (fun cdv A outer s H vs Q E hr h => ?_)
  · obtain ⟨x, dx, A, B, ns, ms, rfl, _⟩ := h
    rfl
  · obtain ⟨x, dx, A, B, ns, ms, rfl, hA, hB, hx, q⟩ := h
    refine ⟨_, (pss_cons (ps_fld (pv 0) (pe_callTy call_list_of (by rfl) T.n_list bt_list (pa_cons (pv 1) pa_nil)) rfl)
      (pss_one (ps_fld (pv 0) (pe_callTy call_list_of (by rfl) T.n_list bt_list (pa_cons (pv 2) pa_nil)) rfl))), ?_⟩
    dsimp only [cxComp, cxOf, Cx.wish, tRet, tRetN, tSeq, tNext, tIfS, tDrop, tNot, tB, tTest, tAnd, tOr, tAndV, tOrV, tNotV, tIf, tCB, tCons, tNil, tVar, tC, tOp, tUn, tBM, tBM0, tCall, tLst, tTup, tAsg, tPar, tSl, tSl3, tNoPart, tPart, tChain, tComp, tCompS, iList, iRng1, iRng2, iEnum, iZip, rI, rI0, rU, rEq, rNe, rIxL, rIxT, rIxS, rIx, rSlL, rSlS, rCat, rEqL, rIsi, rAppend, rPop, rSetL, gSub, tDGet, tDIn, sDPut, tDisp, tPairs, iZipX, rIsiO, tFld, tMeth, tMake, sFld, tOrO, iEnumT, tMaxD, tSortK, tDNewK]
    have c := (G.kl "Steps" (by decide)).cl
    refine ⟨_, rfl, A, _, rfl, .inl hA, fun R1 hR1 => ⟨_, rfl, x, _, dx, [], rfl, (by rw [upd_ne (ne_of_none hx hR1)]; exact hx), c, N.na ("Steps", "rows") (by decide), (by decide), ?_⟩⟩
    obtain ⟨k1, r1, x1, z1⟩ := put_step (fs' := putF "rows" (V.ref R1) []) (ys := ns.map V.int) hx hR1
    generalize upd (upd H R1 (.lst (ns.map V.int))) x (.ins (cl "Steps") dx (putF "rows" (V.ref R1) [])) = H1 at k1 r1 x1 z1 ⊢
    have l1 : (putF "rows" (V.ref R1) ([] : List (Str × V))).length ≤ 1 := Nat.le_refl _
    refine ⟨_, rfl, B, _, rfl, .inl (sq_keep k1 hx hB), fun R2 hR2 => ⟨_, rfl, x, _, dx, _, rfl, (by rw [upd_ne (ne_of_none x1 hR2)]; exact x1), c, N.na ("Steps", "columns") (by decide), (Nat.lt_of_le_of_lt l1 (by decide)), ?_⟩⟩
    obtain ⟨k2, r2, x2, z2⟩ := put_step (fs' := putF "columns" (V.ref R2) (putF "rows" (V.ref R1) [])) (ys := ms.map V.int) x1 hR2
    generalize upd (upd H1 R2 (.lst (ms.map V.int))) x (.ins (cl "Steps") dx (putF "columns" (V.ref R2) (putF "rows" (V.ref R1) []))) = H2 at k2 r2 x2 z2 ⊢
    have n1 : R1 ≠ x := ne_of r1 x1 (by intro z; cases z)
    refine q R1 R2 H2 hR1 (z1 _ hR2) (ne_of_none r1 hR2) (fun b o e n => k2 _ _ (k1 _ _ e n) n) (k2 _ _ r1 n1) r2 ⟨dx, _, x2, ?_, ?_⟩
    · intro p hp
      have hp : p ∈ ([("rows", V.ref R1), ("columns", V.ref R2)] : List (Str × V)) := hp
      simp only [List.mem_cons, List.mem_nil_iff, or_false] at hp
      rcases hp with rfl | rfl
      · rw [lookup_putF, if_neg (show ¬ ("rows" : Str) = "columns" by decide +kernel), lookup_putF, if_pos rfl]
      · rw [lookup_putF, if_pos rfl]
    · constructor
      · rw [lookup_putF, if_neg (show ¬ ("shows" : Str) = "columns" by decide +kernel), lookup_putF, if_neg (show ¬ ("shows" : Str) = "rows" by decide +kernel)]
        rfl
      · rw [lookup_putF, if_neg (show ¬ ("shows_unlike" : Str) = "columns" by decide +kernel), lookup_putF, if_neg (show ¬ ("shows_unlike" : Str) = "rows" by decide +kernel)]
        rfl
theorem S_opposites : FnScope ["numbers"] ["numbers"] (defScope (top 19)) := ⟨rfl, rfl, rfl, by decide +kernel, rfl, by decide +kernel, by decide +kernel⟩
theorem ok_opposites {f : Addr} {fd : FuncData} (F : Fun K "opposites" "opposites" (top 19) f fd) (T : Nm mg) : FnOk P w K mg base CX0 1 f fd ["numbers"] (spOpp K) := by
  have S := S_opposites
  refine F.ok S (fun vs H Q E h => ?_) (fun cdv A outer s H vs Q E hr h => ?_)
  · obtain ⟨A, ns, rfl, _⟩ := h
    rfl
  · obtain ⟨A, ns, rfl, hA, hl, q⟩ := h
    refine ⟨_, (pss_one (ps_ret (pe_comp (N := ["number"]) (lift := [none]) (.of (by kernel_rfl)) (pi_list (pv 0)) (fun b => (pg_name (i := 0) (show (["number"] : List Str).Nodup from by decide +kernel) rfl (by first | exact Or.inl rfl | exact Or.inr rfl))) (fun b => pifs_nil) (fun b => (pe_un un_neg (pv 0)))))), ?_⟩
    dsimp only [cxComp, cxOf, Cx.wish, tRet, tRetN, tSeq, tNext, tIfS, tDrop, tNot, tB, tTest, tAnd, tOr, tAndV, tOrV, tNotV, tIf, tCB, tCons, tNil, tVar, tC, tOp, tUn, tBM, tBM0, tCall, tLst, tTup, tAsg, tPar, tSl, tSl3, tNoPart, tPart, tChain, tComp, tCompS, iList, iRng1, iRng2, iEnum, iZip, rI, rI0, rU, rEq, rNe, rIxL, rIxT, rIxS, rIx, rSlL, rSlS, rCat, rEqL, rIsi, rAppend, rPop, rSetL, gSub, tDGet, tDIn, sDPut, tDisp, tPairs, iZipX, rIsiO, tFld, tMeth, tMake, sFld, tOrO, iEnumT, tMaxD, tSortK, tDNewK]
    refine ⟨_, rfl, A, rfl, ⟨_, hA⟩, comp_list (intM fun z => .int (-z)) hA (by rw [List.length_map]; exact n100 hl) (fun x hx => ?_) fun D H1 s1 n1 e1 => ?_⟩
    · obtain ⟨z, _, rfl⟩ := List.mem_map.mp hx
      exact .map fun H2 k s2 hk => ⟨_, rfl, z, rfl, hk _ (Same.refl _)⟩
    · rw [intM_map] at e1
      refine q D H1 s1 n1 ?_
      rw [e1, List.map_map]
      rfl
theorem S_Steps_shows : FnScope ["self", "table"] ["self", "table"] (defScope (inClass (top 22) 1)) := ⟨rfl, rfl, rfl, by decide +kernel, rfl, by decide +kernel, by decide +kernel⟩
theorem ok_Steps_shows {f : Addr} {fd : FuncData} {cl : Str → Addr} (F : Fun K "shows" "Steps.shows" (inClass (top 22) 1) f fd) (T : Nm mg) (G : Ks K mg cl) (N : Nas K cl) (c_are_numbers : DefC P w K mg base 2 "are_numbers" ["values", "length"] (spAreNum K))
    (c_width : DefC P w K mg base 1 "width" ["table"] (spWidth K)) (c_has_where_less : DefC P w K mg base 2 "has_where_less" ["table", "rows", "columns"] (spHasLess K)) (c_opposites : DefC P w K mg base 1 "opposites" ["numbers"] (spOpp K)) :
    FnOk P w K mg base CX0 3 f fd ["self", "table"] (spShowS K cl) := by
  have S := S_Steps_shows
  refine F.ok S (fun vs H Q E h => ?_) (fun cdv A outer s H vs Q E hr h => ?_)
  · obtain ⟨a, t, n, D, R, C, ns, ms, rfl, _⟩ := h
    rfl
  · obtain ⟨a, t, n, D, R, C, ns, ms, rfl, tb, an, q⟩ := h
    have n1 := N.na ("Steps", "rows") (by decide)
    have n2 := N.na ("Steps", "columns") (by decide)
    have m1 : (("rows" : Str), V.ref R) ∈ stepsF R C := .head _
    have m2 : (("columns" : Str), V.ref C) ∈ stepsF R C := .tail _ (.head _)
    have tl : ((tabV t).length : Int) ≤ 100 := by rw [tabV_len]; have := tb.len; omega
    have wl : ((widT t : Nat) : Int) ≤ 100 := by have := widT_le tb; have := tb.wl; omega
    refine ⟨_, (pss_cons (ps_if (PW.pt (pw_or (pt_not (pt_val (pe_callC c_are_numbers hr (by rfl) (pa_cons (pe_fld (pv 0) rfl) (pa_cons (pe_callB call_len_seq (by rfl) T.n_len bt_len (pa_cons (pv 1) pa_nil)) pa_nil))))) (pw_or1 (pt_not (pt_val (pe_callC c_are_numbers hr (by rfl) (pa_cons (pe_fld (pv 0) rfl) (pa_cons (pe_callC c_width hr (by rfl) (pa_cons (pv 1) pa_nil)) pa_nil)))))))) (pss_one (ps_ret pe_bl)) pss_nil)
      (pss_one (ps_ret (pe_callC c_has_where_less hr (by rfl) (pa_cons (pv 1) (pa_cons (pe_callC c_opposites hr (by rfl) (pa_cons (pe_fld (pv 0) rfl) pa_nil)) (pa_cons (pe_callC c_opposites hr (by rfl) (pa_cons (pe_fld (pv 0) rfl) pa_nil)) pa_nil))))))), ?_⟩
    refine seq_cut (fun σ' H' => σ' = [some (.ref D), some (.ref a)] ∧ Same H H' ∧ ns.length = t.length ∧ ms.length = widT t) (fun nx' hnx => ?_) ?_
    · dsimp only [cxComp, cxOf, Cx.wish, tRet, tRetN, tSeq, tNext, tIfS, tDrop, tNot, tB, tTest, tAnd, tOr, tAndV, tOrV, tNotV, tIf, tCB, tCons, tNil, tVar, tC, tOp, tUn, tBM, tBM0, tCall, tLst, tTup, tAsg, tPar, tSl, tSl3, tNoPart, tPart, tChain, tComp, tCompS, iList, iRng1, iRng2, iEnum, iZip, rI, rI0, rU, rEq, rNe, rIxL, rIxT, rIxS, rIx, rSlL, rSlS, rCat, rEqL, rIsi, rAppend, rPop, rSetL, gSub, tDGet, tDIn, sDPut, tDisp, tPairs, iZipX, rIsiO, tFld, tMeth, tMake, sFld, tOrO, iEnumT, tMaxD, tSortK, tDNewK]
      refine ⟨_, rfl, an.is.get G (by decide) n1 m1 ⟨_, rfl, a, _, rfl, .inl tb.at', R, ns, _, rfl, .of an.rows, tl, fun H1 s1 => ⟨_, rfl, ?_⟩⟩⟩
      have an1 := an.same s1
      rw [tabV_len]
      by_cases e1 : ns.length = t.length
      · refine iteFb (by rw [e1]; simp) ⟨_, rfl, an1.is.get G (by decide) n2 m2 ⟨_, rfl, a, t, n, rfl, tb.same s1, C, ms, _, rfl, .of an1.cols, wl, fun H2 s2 => ⟨_, rfl, ?_⟩⟩⟩
        by_cases e2 : ms.length = widT t
        · exact iteFb (by rw [e2]; simp) (hnx _ _ ⟨rfl, s1.trans s2, e1, e2⟩)
        · have q2 := q H2 (s1.trans s2)
          rw [show stepsT t ns ms = false from by unfold stepsT; simp [e2]] at q2
          exact iteTb (by simp; omega) q2
      · have q2 := q H1 s1
        rw [show stepsT t ns ms = false from by unfold stepsT; simp [e1]] at q2
        exact iteTb (by simp; omega) (iteTb rfl q2)
    rintro σ1 H1 ⟨rfl, s1, e1, e2⟩
    have an1 := an.same s1
    have tl' := tb.len
    have wl' : widT t ≤ 100 := by omega
    dsimp only [cxComp, cxOf, Cx.wish, tRet, tRetN, tSeq, tNext, tIfS, tDrop, tNot, tB, tTest, tAnd, tOr, tAndV, tOrV, tNotV, tIf, tCB, tCons, tNil, tVar, tC, tOp, tUn, tBM, tBM0, tCall, tLst, tTup, tAsg, tPar, tSl, tSl3, tNoPart, tPart, tChain, tComp, tCompS, iList, iRng1, iRng2, iEnum, iZip, rI, rI0, rU, rEq, rNe, rIxL, rIxT, rIxS, rIx, rSlL, rSlS, rCat, rEqL, rIsi, rAppend, rPop, rSetL, gSub, tDGet, tDIn, sDPut, tDisp, tPairs, iZipX, rIsiO, tFld, tMeth, tMake, sFld, tOrO, iEnumT, tMaxD, tSortK, tDNewK]
    refine ⟨_, rfl, _, rfl, an1.is.get G (by decide) n1 m1 ⟨R, ns, rfl, .of an1.rows, (by omega), fun D1 H2 s2 _ e3 => ?_⟩⟩
    have an2 := an1.same s2
    refine ⟨_, rfl, an2.is.get G (by decide) n2 m2 ⟨C, ms, rfl, .of an2.cols, (by omega), fun D2 H3 s3 _ e4 => ?_⟩⟩
    refine ⟨a, t, n, D1, _, D2, _, rfl, tb.same (s1.trans (s2.trans s3)), .of (s3 _ _ e3), .of e4, (by rw [List.length_map]; exact e1), (by rw [List.length_map]; omega), fun H4 s4 => ?_⟩
    rw [less_opp tb.wid e1 e2]
    exact q H4 (s1.trans (s2.trans (s3.trans s4)))
end
end Wa
namespace Wa
open PySem PySem.Spec PyProof.Rows L2
noncomputable def colsG (t : Tab) (ns : List Int) : List Int := (turnT t (widT t)).map fun c => glV c ns
theorem colsG_len (t : Tab) (ns : List Int) : (colsG t ns).length = widT t := by unfold colsG; rw [List.length_map, turnT_len]
theorem cnt_get {t : Tab} {i : Nat} {r : List Bool} (e : t[i]? = some r) : (t.map cntI).getD i 0 = cntI r := by
  rw [List.getD_eq_getElem?_getD, List.getElem?_map, e]
  rfl
theorem steps_ok {t : Tab} {w : Nat} (hw : Wid t w) (nc : NoCross t) : stepsT t (t.map cntI) (colsG t (t.map cntI)) = true := by
  unfold stepsT
  rw [List.length_map, beq_self_eq_true, colsG_len, beq_self_eq_true, Bool.true_and, Bool.true_and, List.all_eq_true]
  intro i hi
  have hi' := List.mem_range.mp hi
  obtain ⟨r, er⟩ := row_of hi'
  have hr := hw r (List.mem_of_getElem? er)
  unfold rowT
  rw [colsG_len, List.all_eq_true]
  intro j hj
  have hj' := List.mem_range.mp hj
  have hwd : widT t = w := wid_head hw (fun e => by rw [e] at hi'; simp at hi')
  rw [beq_iff_eq, show t.getD i [] = r from by simp [er], ← at2_row er]
  have eg : (colsG t (t.map cntI)).getD j 0 = glV (colT t j) (t.map cntI) := by
    unfold colsG
    rw [List.getD_eq_getElem?_getD, List.getElem?_map, turnT_get _ _ _ hj']
    rfl
  rw [eg]
  have gl := glV_is (colT t j) (t.map cntI)
  have colAt : ∀ k, k < t.length → (colT t j).getD k false = at2 t k j := fun k hk => colT_at hk j
  refine steps_at (n := t.length) (f := at2 t) (c := fun i => (t.map cntI).getD i 0) (g := fun j => glV (colT t j) (t.map cntI)) (i := i) (j := j) hi' (fun h => ?_) (fun k hk h1 h2 => ?_) ⟨fun k hk h => ?_, ?_⟩
  · show 0 < (t.map cntI).getD i 0
    rw [cnt_get er]
    rw [at2_row er] at h
    have := cnt_pos h
    unfold cntI
    omega
  · obtain ⟨u, eu⟩ := row_of hk
    have hu := hw u (List.mem_of_getElem? eu)
    show (t.map cntI).getD k 0 < (t.map cntI).getD i 0
    rw [cnt_get er, cnt_get eu]
    rw [at2_row er] at h1
    rw [at2_row eu] at h2
    have sb := nc k i hk hi'
    rw [show t.getD k [] = u from by simp [eu], show t.getD i [] = r from by simp [er]] at sb
    have := cnt_less (r := u) (s := r) (by omega) sb h1 h2
    unfold cntI
    omega
  · exact gl.1 k (by rw [colT_len]; exact hk) (by rw [colAt k hk]; exact h)
  · rcases gl.2 with ⟨e, h⟩ | ⟨k, hk, e1, e2⟩
    · exact .inl ⟨e, fun k hk => by rw [← colAt k hk]; exact h k (by rw [colT_len]; exact hk)⟩
    · rw [colT_len] at hk
      exact .inr ⟨k, hk, by rw [← colAt k hk]; exact e1, e2⟩
def spMakeSteps (K : PySem.W.Frag) (cl : Str → Addr) : Sp := fun vs H Q _ => ∃ a t w, vs = [.ref a] ∧ Tb K H a t w ∧ NoCross t ∧
  ∀ D R C ns ms H', Same H H' → H R = none → R ≠ C → AnS K cl H' D R C ns ms → stepsT t ns ms = true → Q (.ref D) H'
section
variable {P : Program} {w : World} {K : PySem.W.Frag} {mg : Str → Option Value} {base : Heap}
theorem S_make_steps : FnScope ["table", "counts"] ["table"] (defScope (top 38)) := ⟨rfl, rfl, rfl, by decide +kernel, rfl, by decide +kernel, by decide +kernel⟩
theorem ok_make_steps {f : Addr} {fd : FuncData} {cl : Str → Addr} (F : Fun K "make_steps" "make_steps" (top 38) f fd) (T : Nm mg) (c_turned : DefC P w K mg base 4 "turned" ["table"] (spTurned K)) (c_signs_count : DefC P w K mg base 1 "signs_count" ["texts"] (spCounts K))
    (c_greatest_lacking : DefC P w K mg base 1 "greatest_lacking" ["signs", "numbers"] (spLacking K)) (c_Steps : MakC P w K mg base 1 "Steps" (cl "Steps") ["self", "rows", "columns"] (spMkSt K cl)) : FnOk P w K mg base CX0 5 f fd ["table"] (spMakeSteps K cl) := by
  have S := S_make_steps
  refine F.ok S (fun vs H Q E h => ?_) (fun cdv A outer s H vs Q E hr h => ?_)
  · obtain ⟨a, t, n, rfl, _⟩ := h
    rfl
  · obtain ⟨a, t, n, rfl, tb, nc, q⟩ := h
    refine ⟨_, (pss_cons (ps_set (i := 1) S.nd rfl (by first | exact Or.inl rfl | exact Or.inr rfl) (pe_callC c_signs_count hr (by rfl) (pa_cons (pv 0) pa_nil)))
      (pss_one (ps_ret (pe_makeC c_Steps hr (by rfl) (pa_cons (pv 1) (pa_cons (pe_comp (N := ["signs", "counts"]) (lift := [none, some 1]) (.of (by kernel_rfl)) (pi_list (pe_callC c_turned hr (by rfl) (pa_cons (pv 0) pa_nil))) (fun b => (pg_name (i := 0) (show (["signs", "counts"] : List Str).Nodup from by decide +kernel) rfl (by first | exact Or.inl rfl | exact Or.inr rfl))) (fun b => pifs_nil) (fun b => (pe_callC c_greatest_lacking hr (by rfl) (pa_cons (pv 0) (pa_cons (pv 1) pa_nil))))) pa_nil)))))), ?_⟩
    refine seq_cut (fun σ' H' => ∃ B, σ' = [some (.ref a), some (.ref B)] ∧ Same H H' ∧ H' B = some (.lst ((t.map cntI).map V.int))) (fun nx' hnx => ?_) ?_
    · dsimp only [cxComp, cxOf, Cx.wish, tRet, tRetN, tSeq, tNext, tIfS, tDrop, tNot, tB, tTest, tAnd, tOr, tAndV, tOrV, tNotV, tIf, tCB, tCons, tNil, tVar, tC, tOp, tUn, tBM, tBM0, tCall, tLst, tTup, tAsg, tPar, tSl, tSl3, tNoPart, tPart, tChain, tComp, tCompS, iList, iRng1, iRng2, iEnum, iZip, rI, rI0, rU, rEq, rNe, rIxL, rIxT, rIxS, rIx, rSlL, rSlS, rCat, rEqL, rIsi, rAppend, rPop, rSetL, gSub, tDGet, tDIn, sDPut, tDisp, tPairs, iZipX, rIsiO, tFld, tMeth, tMake, sFld, tOrO, iEnumT, tMaxD, tSortK, tDNewK]
      exact ⟨_, rfl, a, t, n, rfl, tb, fun D H' s' _ e => hnx _ _ ⟨D, rfl, s', e⟩⟩
    rintro σ1 H1 ⟨B, rfl, s1, eB⟩
    have tb1 := tb.same s1
    have tl := tb.len
    dsimp only [cxComp, cxOf, Cx.wish, tRet, tRetN, tSeq, tNext, tIfS, tDrop, tNot, tB, tTest, tAnd, tOr, tAndV, tOrV, tNotV, tIf, tCB, tCons, tNil, tVar, tC, tOp, tUn, tBM, tBM0, tCall, tLst, tTup, tAsg, tPar, tSl, tSl3, tNoPart, tPart, tChain, tComp, tCompS, iList, iRng1, iRng2, iEnum, iZip, rI, rI0, rU, rEq, rNe, rIxL, rIxT, rIxS, rIx, rSlL, rSlS, rCat, rEqL, rIsi, rAppend, rPop, rSetL, gSub, tDGet, tDIn, sDPut, tDisp, tPairs, iZipX, rIsiO, tFld, tMeth, tMake, sFld, tOrO, iEnumT, tMaxD, tSortK, tDNewK]
    refine ⟨_, rfl, _, rfl, a, t, n, rfl, tb1, fun C H2 s2 _ eC => ⟨C, rfl, ⟨_, .of eC⟩, ?_⟩⟩
    have tC := tb1.turn eC
    have eB2 := s2 _ _ eB
    refine comp_list (txtM fun z => .int (glV (rowB z) (t.map cntI))) (.of eC) tC.size (fun x hx => ?_) fun D H3 s3 n3 e3 => ?_
    · obtain ⟨r, hr', rfl⟩ := List.mem_map.mp hx
      have hw := tC.wid r hr'
      refine .map fun H3 k s3 hk => ⟨_, rfl, _, rfl, r, B, t.map cntI, rfl, .of (s3 _ _ eB2), (by rw [List.length_map]; omega), (by omega), fun H4 s4 => ?_⟩
      have h2 := hk H4 s4
      dsimp only at h2
      rw [rowB_is] at h2
      exact h2
    · rw [txtM_map] at e3
      have e4 : ((turnT t (widT t)).map fun r => V.int (glV (rowB (rowS r)) (t.map cntI))) = (colsG t (t.map cntI)).map V.int := by
        unfold colsG
        rw [List.map_map]
        apply List.map_congr_left
        intro r _
        rw [rowB_is]
        rfl
      rw [e4] at e3
      have eB3 := s3 _ _ eB2
      refine fun x dx hx hdx hne => ⟨x, dx, B, D, t.map cntI, colsG t (t.map cntI), rfl, .of ?_, .of ?_, upd_same, fun R1 R2 H' hR1 hR2 n12 k r1 r2 is => ⟨rfl, ?_⟩⟩
      · rw [upd_ne (ne_of_none eB3 hx), upd_ne (ne_of_none eB3 hdx)]
        exact eB3
      · rw [upd_ne (ne_of_none e3 hx), upd_ne (ne_of_none e3 hdx)]
        exact e3
      · have s13 := s1.trans (s2.trans s3)
        refine q x R1 R2 _ _ H' (s13.trans (made_same hx hdx k)) (same_none s13 ?_) n12 ⟨is, r1, r2⟩ (steps_ok tb.wid nc)
        cases e : H3 R1 with
        | none => rfl
        | some o =>
          rw [upd_ne (ne_of_none e hx), upd_ne (ne_of_none e hdx), e] at hR1
          cases hR1
theorem S_steps : FnScope ["table"] ["table"] (defScope (top 33)) := ⟨rfl, rfl, rfl, by decide +kernel, rfl, by decide +kernel, by decide +kernel⟩
theorem ok_steps {f : Addr} {fd : FuncData} {cl : Str → Addr} {Pt : Addr} (F : Fun K "steps" "steps" (top 33) f fd) (T : Nm mg) (R : ∀ n ∈ klasses, Tru K (cl n)) (c_check_table : DefC P w K mg base 3 "check_table" ["table"] (spCheck K))
    (c_find_cross : DefC P w K mg base 4 "find_cross" ["table"] (spFindCross K cl Pt)) (c_make_steps : DefC P w K mg base 5 "make_steps" ["table"] (spMakeSteps K cl)) : FnOk P w K mg base CX0 6 f fd ["table"] (spTellS K cl Pt) := by
  have S := S_steps
  refine F.ok S (fun vs H Q E h => ?_) (fun cdv A outer s H vs Q E hr h => ?_)
  · obtain ⟨a, t, n, rfl, _⟩ := h
    rfl
  · obtain ⟨a, t, n, rfl, tb, h64, hP, q1, q2⟩ := h
    refine ⟨_, (pss_cons (ps_expr (pe_callC c_check_table hr (by rfl) (pa_cons (pv 0) pa_nil)))
      (pss_one (ps_ret (pe_orO (pe_callC c_find_cross hr (by rfl) (pa_cons (pv 0) pa_nil)) (pe_one (pe_callC c_make_steps hr (by rfl) (pa_cons (pv 0) pa_nil))))))), ?_⟩
    dsimp only [cxComp, cxOf, Cx.wish, tRet, tRetN, tSeq, tNext, tIfS, tDrop, tNot, tB, tTest, tAnd, tOr, tAndV, tOrV, tNotV, tIf, tCB, tCons, tNil, tVar, tC, tOp, tUn, tBM, tBM0, tCall, tLst, tTup, tAsg, tPar, tSl, tSl3, tNoPart, tPart, tChain, tComp, tCompS, iList, iRng1, iRng2, iEnum, iZip, rI, rI0, rU, rEq, rNe, rIxL, rIxT, rIxS, rIx, rSlL, rSlS, rCat, rEqL, rIsi, rAppend, rPop, rSetL, gSub, tDGet, tDIn, sDPut, tDisp, tPairs, iZipX, rIsiO, tFld, tMeth, tMake, sFld, tOrO, iEnumT, tMaxD, tSortK, tDNewK]
    refine ⟨_, rfl, a, t, n, rfl, tb, fun H1 s1 => ?_⟩
    have tb1 := tb.same s1
    refine ⟨_, rfl, a, t, n, rfl, tb1, (by omega), hP.same s1, fun D i j k l H2 s2 is e => ?_, fun H2 s2 hnc => ?_⟩
    · obtain ⟨dx, fs, ed, _⟩ := is.shows
      exact .inr ⟨D, _, dx, fs, rfl, ed, R "Cross" (by decide), q2 D i j k l H2 (s1.trans s2) is e⟩
    refine .inl ⟨rfl, ?_⟩
    have s12 := s1.trans s2
    refine ⟨_, rfl, a, t, n, rfl, tb1.same s2, hnc, fun D R1 R2 ns ms H3 s3 r1 n12 an e => ?_⟩
    exact q1 D R1 R2 ns ms H3 (s12.trans s3) (same_none s12 r1) n12 an e
end
end Wa
namespace Wa
open PySem PySem.Spec PyProof.Rows L2
section
variable {P : Program} {w : World} {K : PySem.W.Frag} {mg : Str → Option Value} {base : Heap} {f : Addr} {fd : FuncData} {ps : List Str} {cl : Str → Addr} {k : Nat}
theorem show2_Cross (F : FnOk P w K mg base CX0 k f fd ps (spShC K cl)) : FnOk P w K mg base CX0 k f fd ps (spShowC K cl) := F.imp fun vs H Q E h => by
  obtain ⟨a, t, n, D, i, j, k, l, rfl, tb, is, q⟩ := h
  exact ⟨a, t, n, D, i, j, k, l, rfl, tb, is, q⟩
end
end Wa
namespace Wa
open PySem PySem.Spec PyProof.Rows L2
/-- isinstance of the classes, each against each -/
def clsOnes (K : PySem.W.Frag) (l : List (Str × Addr)) : Bool := l.all fun p => l.all fun q => PySem.W.kitOne K (.ref p.2) (.ref q.2) == some (p.1 == q.1 || q.1 == "Answer")
theorem clsOnes_at {K : PySem.W.Frag} {l : List (Str × Addr)} (h : clsOnes K l = true) {p r : Str × Addr} (hp : p ∈ l) (hr : r ∈ l) : PySem.W.kitOne K (.ref p.2) (.ref r.2) = some (p.1 == r.1 || r.1 == "Answer") := by
  unfold clsOnes at h
  rw [List.all_eq_true] at h
  have h1 := h p hp
  rw [List.all_eq_true] at h1
  exact eq_of_beq (h1 r hr)
theorem tab_in {K : PySem.W.Frag} {x : Str} {f c Pt : Addr} {oc oc' : Value} {od od' : Option Addr} {sl sl' : Array (Option Value)} {fd : FuncData} {vs : Array Value} (h1 : PySem.W.nsIn K mainGlobals x = some (some (.ref f))) (h2 : K.lookup f = some ⟨oc, od, .func fd, sl⟩) (h3 : fd.code = .ref c) (h4 : K.lookup c = some ⟨oc', od', .fields vs, sl'⟩) (h5 : vs[11]? = some (.ref Pt)) : PySem.W.tabIn K x = some (c, Pt) := by
  unfold PySem.W.tabIn
  simp only [h1, h2, h3, h4, h5]
/-- the class of a name -/
def clOf (l : List (Str × Addr)) (n : Str) : Addr := match l.lookup n with
  | some a => a
  | none => 0
theorem clOf_hd {l : List (Str × Addr)} {n : Str} {a : Addr} : clOf ((n, a) :: l) n = a := by
  unfold clOf
  rw [List.lookup_cons, beq_self_eq_true]
theorem clOf_tl {l : List (Str × Addr)} {n m : Str} {a : Addr} (h : (n == m) = false) : clOf ((m, a) :: l) n = clOf l n := by
  unfold clOf
  rw [List.lookup_cons, h]
theorem all_mk {l : PySem.W.OpenLaw} {w : World} {K : PySem.W.Frag} {h : Heap} {mg : Str → Option Value} {fa : Addr} (X : K.In h) (G : h.Ns mainGlobals mg) (hfa : mg "law" = some (.ref fa))
    {CAnswer CBeside CCross CLine CMutual CNeither CRanks CRound CSelf CSteps CStretches : Addr}
    (gAnswer : PySem.W.nsIn K mainGlobals "Answer" = some (some (.ref CAnswer)))
    (gBeside : PySem.W.nsIn K mainGlobals "Beside" = some (some (.ref CBeside)))
    (gCross : PySem.W.nsIn K mainGlobals "Cross" = some (some (.ref CCross)))
    (gLine : PySem.W.nsIn K mainGlobals "Line" = some (some (.ref CLine)))
    (gMutual : PySem.W.nsIn K mainGlobals "Mutual" = some (some (.ref CMutual)))
    (gNeither : PySem.W.nsIn K mainGlobals "Neither" = some (some (.ref CNeither)))
    (gRanks : PySem.W.nsIn K mainGlobals "Ranks" = some (some (.ref CRanks)))
    (gRound : PySem.W.nsIn K mainGlobals "Round" = some (some (.ref CRound)))
    (gSelf : PySem.W.nsIn K mainGlobals "Self" = some (some (.ref CSelf)))
    (gSteps : PySem.W.nsIn K mainGlobals "Steps" = some (some (.ref CSteps)))
    (gStretches : PySem.W.nsIn K mainGlobals "Stretches" = some (some (.ref CStretches)))
    (pgAnswer : PySem.W.plainGet K CAnswer Str.empty = true)
    (hdAnswer : PySem.W.hasDictIn K CAnswer = true)
    (poAnswer : PySem.W.plainOver K CAnswer = true)
    (saAnswer : PySem.W.findIn K (.ref CAnswer) "__setattr__" = some (some (.builtin "object.__setattr__")))
    (haAnswer : PySem.W.findIn K (.ref CAnswer) "__class__" = some (some (.builtin "object.__class__")))
    (hmAnswer : PySem.W.mroIn K CAnswer (.type "object") = some true)
    (tbAnswer : PySem.W.findIn K (.ref CAnswer) "__bool__" = some none)
    (tlAnswer : PySem.W.findIn K (.ref CAnswer) "__len__" = some none)
    (pgBeside : PySem.W.plainGet K CBeside Str.empty = true)
    (hdBeside : PySem.W.hasDictIn K CBeside = true)
    (poBeside : PySem.W.plainOver K CBeside = true)
    (saBeside : PySem.W.findIn K (.ref CBeside) "__setattr__" = some (some (.builtin "object.__setattr__")))
    (haBeside : PySem.W.findIn K (.ref CBeside) "__class__" = some (some (.builtin "object.__class__")))
    (hmBeside : PySem.W.mroIn K CBeside (.type "object") = some true)
    (tbBeside : PySem.W.findIn K (.ref CBeside) "__bool__" = some none)
    (tlBeside : PySem.W.findIn K (.ref CBeside) "__len__" = some none)
    (pgCross : PySem.W.plainGet K CCross Str.empty = true)
    (hdCross : PySem.W.hasDictIn K CCross = true)
    (poCross : PySem.W.plainOver K CCross = true)
    (saCross : PySem.W.findIn K (.ref CCross) "__setattr__" = some (some (.builtin "object.__setattr__")))
    (haCross : PySem.W.findIn K (.ref CCross) "__class__" = some (some (.builtin "object.__class__")))
    (hmCross : PySem.W.mroIn K CCross (.type "object") = some true)
    (tbCross : PySem.W.findIn K (.ref CCross) "__bool__" = some none)
    (tlCross : PySem.W.findIn K (.ref CCross) "__len__" = some none)
    (pgLine : PySem.W.plainGet K CLine Str.empty = true)
    (hdLine : PySem.W.hasDictIn K CLine = true)
    (poLine : PySem.W.plainOver K CLine = true)
    (saLine : PySem.W.findIn K (.ref CLine) "__setattr__" = some (some (.builtin "object.__setattr__")))
    (haLine : PySem.W.findIn K (.ref CLine) "__class__" = some (some (.builtin "object.__class__")))
    (hmLine : PySem.W.mroIn K CLine (.type "object") = some true)
    (tbLine : PySem.W.findIn K (.ref CLine) "__bool__" = some none)
    (tlLine : PySem.W.findIn K (.ref CLine) "__len__" = some none)
    (pgMutual : PySem.W.plainGet K CMutual Str.empty = true)
    (hdMutual : PySem.W.hasDictIn K CMutual = true)
    (poMutual : PySem.W.plainOver K CMutual = true)
    (saMutual : PySem.W.findIn K (.ref CMutual) "__setattr__" = some (some (.builtin "object.__setattr__")))
    (haMutual : PySem.W.findIn K (.ref CMutual) "__class__" = some (some (.builtin "object.__class__")))
    (hmMutual : PySem.W.mroIn K CMutual (.type "object") = some true)
    (tbMutual : PySem.W.findIn K (.ref CMutual) "__bool__" = some none)
    (tlMutual : PySem.W.findIn K (.ref CMutual) "__len__" = some none)
    (pgNeither : PySem.W.plainGet K CNeither Str.empty = true)
    (hdNeither : PySem.W.hasDictIn K CNeither = true)
    (poNeither : PySem.W.plainOver K CNeither = true)
    (saNeither : PySem.W.findIn K (.ref CNeither) "__setattr__" = some (some (.builtin "object.__setattr__")))
    (haNeither : PySem.W.findIn K (.ref CNeither) "__class__" = some (some (.builtin "object.__class__")))
    (hmNeither : PySem.W.mroIn K CNeither (.type "object") = some true)
    (tbNeither : PySem.W.findIn K (.ref CNeither) "__bool__" = some none)
    (tlNeither : PySem.W.findIn K (.ref CNeither) "__len__" = some none)
    (pgRanks : PySem.W.plainGet K CRanks Str.empty = true)
    (hdRanks : PySem.W.hasDictIn K CRanks = true)
    (poRanks : PySem.W.plainOver K CRanks = true)
    (saRanks : PySem.W.findIn K (.ref CRanks) "__setattr__" = some (some (.builtin "object.__setattr__")))
    (haRanks : PySem.W.findIn K (.ref CRanks) "__class__" = some (some (.builtin "object.__class__")))
    (hmRanks : PySem.W.mroIn K CRanks (.type "object") = some true)
    (tbRanks : PySem.W.findIn K (.ref CRanks) "__bool__" = some none)
    (tlRanks : PySem.W.findIn K (.ref CRanks) "__len__" = some none)
    (pgRound : PySem.W.plainGet K CRound Str.empty = true)
    (hdRound : PySem.W.hasDictIn K CRound = true)
    (poRound : PySem.W.plainOver K CRound = true)
    (saRound : PySem.W.findIn K (.ref CRound) "__setattr__" = some (some (.builtin "object.__setattr__")))
    (haRound : PySem.W.findIn K (.ref CRound) "__class__" = some (some (.builtin "object.__class__")))
    (hmRound : PySem.W.mroIn K CRound (.type "object") = some true)
    (tbRound : PySem.W.findIn K (.ref CRound) "__bool__" = some none)
    (tlRound : PySem.W.findIn K (.ref CRound) "__len__" = some none)
    (pgSelf : PySem.W.plainGet K CSelf Str.empty = true)
    (hdSelf : PySem.W.hasDictIn K CSelf = true)
    (poSelf : PySem.W.plainOver K CSelf = true)
    (saSelf : PySem.W.findIn K (.ref CSelf) "__setattr__" = some (some (.builtin "object.__setattr__")))
    (haSelf : PySem.W.findIn K (.ref CSelf) "__class__" = some (some (.builtin "object.__class__")))
    (hmSelf : PySem.W.mroIn K CSelf (.type "object") = some true)
    (tbSelf : PySem.W.findIn K (.ref CSelf) "__bool__" = some none)
    (tlSelf : PySem.W.findIn K (.ref CSelf) "__len__" = some none)
    (pgSteps : PySem.W.plainGet K CSteps Str.empty = true)
    (hdSteps : PySem.W.hasDictIn K CSteps = true)
    (poSteps : PySem.W.plainOver K CSteps = true)
    (saSteps : PySem.W.findIn K (.ref CSteps) "__setattr__" = some (some (.builtin "object.__setattr__")))
    (haSteps : PySem.W.findIn K (.ref CSteps) "__class__" = some (some (.builtin "object.__class__")))
    (hmSteps : PySem.W.mroIn K CSteps (.type "object") = some true)
    (tbSteps : PySem.W.findIn K (.ref CSteps) "__bool__" = some none)
    (tlSteps : PySem.W.findIn K (.ref CSteps) "__len__" = some none)
    (pgStretches : PySem.W.plainGet K CStretches Str.empty = true)
    (hdStretches : PySem.W.hasDictIn K CStretches = true)
    (poStretches : PySem.W.plainOver K CStretches = true)
    (saStretches : PySem.W.findIn K (.ref CStretches) "__setattr__" = some (some (.builtin "object.__setattr__")))
    (haStretches : PySem.W.findIn K (.ref CStretches) "__class__" = some (some (.builtin "object.__class__")))
    (hmStretches : PySem.W.mroIn K CStretches (.type "object") = some true)
    (tbStretches : PySem.W.findIn K (.ref CStretches) "__bool__" = some none)
    (tlStretches : PySem.W.findIn K (.ref CStretches) "__len__" = some none)
    (hn : PySem.W.specialIn K (.builtin "object.__class__") "__get__" = some (some (.builtin "getset_descriptor.__get__")))
    (htk : PySem.W.takesIn K (.builtin "object.__class__") = some true)
    (ones : clsOnes K [("Answer", CAnswer), ("Beside", CBeside), ("Cross", CCross), ("Line", CLine), ("Mutual", CMutual), ("Neither", CNeither), ("Ranks", CRanks), ("Round", CRound), ("Self", CSelf), ("Steps", CSteps), ("Stretches", CStretches)] = true)
    (nBeside_one : PySem.W.findIn K (.ref CBeside) "one" = some none)
    (nBeside_other : PySem.W.findIn K (.ref CBeside) "other" = some none)
    (nBeside_third : PySem.W.findIn K (.ref CBeside) "third" = some none)
    (nCross_one : PySem.W.findIn K (.ref CCross) "one" = some none)
    (nCross_first : PySem.W.findIn K (.ref CCross) "first" = some none)
    (nCross_other : PySem.W.findIn K (.ref CCross) "other" = some none)
    (nCross_second : PySem.W.findIn K (.ref CCross) "second" = some none)
    (nLine_order : PySem.W.findIn K (.ref CLine) "order" = some none)
    (nMutual_one : PySem.W.findIn K (.ref CMutual) "one" = some none)
    (nMutual_other : PySem.W.findIn K (.ref CMutual) "other" = some none)
    (nNeither_one : PySem.W.findIn K (.ref CNeither) "one" = some none)
    (nNeither_other : PySem.W.findIn K (.ref CNeither) "other" = some none)
    (nRanks_ranks : PySem.W.findIn K (.ref CRanks) "ranks" = some none)
    (nRound_one : PySem.W.findIn K (.ref CRound) "one" = some none)
    (nRound_other : PySem.W.findIn K (.ref CRound) "other" = some none)
    (nRound_third : PySem.W.findIn K (.ref CRound) "third" = some none)
    (nSelf_one : PySem.W.findIn K (.ref CSelf) "one" = some none)
    (nSteps_rows : PySem.W.findIn K (.ref CSteps) "rows" = some none)
    (nSteps_columns : PySem.W.findIn K (.ref CSteps) "columns" = some none)
    (nStretches_begins : PySem.W.findIn K (.ref CStretches) "begins" = some none)
    (nStretches_ends : PySem.W.findIn K (.ref CStretches) "ends" = some none)
    (nStretches_unlike : PySem.W.findIn K (.ref CStretches) "unlike" = some none)
    {f1 : Addr} {od1 an1 : Option Addr} {sl1 : Array (Option Value)} {oc1 kV1 dc1 pm1 cd1 ct1 : Value}
    (a1 : PySem.W.nsIn K mainGlobals "is_row" = some (some (.ref f1)))
    (l1 : K.lookup f1 = some ⟨oc1, od1, .func (PySem.W.fnOf "is_row" "is_row" (defArgs (top 4)) (defBody (top 4)) (defScope (top 4)) .none kV1 dc1 pm1 an1 cd1 ct1), sl1⟩)
    (c1 : PySem.W.codeIn K cd1 "is_row" = true)
    (k1 : PySem.W.keepIn K (.ref f1) = true)
    {f2 : Addr} {od2 an2 : Option Addr} {sl2 : Array (Option Value)} {oc2 kV2 dc2 pm2 cd2 ct2 : Value}
    (a2 : PySem.W.nsIn K mainGlobals "is_table" = some (some (.ref f2)))
    (l2 : K.lookup f2 = some ⟨oc2, od2, .func (PySem.W.fnOf "is_table" "is_table" (defArgs (top 5)) (defBody (top 5)) (defScope (top 5)) .none kV2 dc2 pm2 an2 cd2 ct2), sl2⟩)
    (c2 : PySem.W.codeIn K cd2 "is_table" = true)
    (k2 : PySem.W.keepIn K (.ref f2) = true)
    {f3 : Addr} {od3 an3 : Option Addr} {sl3 : Array (Option Value)} {oc3 kV3 dc3 pm3 cd3 ct3 : Value}
    (a3 : PySem.W.nsIn K mainGlobals "width" = some (some (.ref f3)))
    (l3 : K.lookup f3 = some ⟨oc3, od3, .func (PySem.W.fnOf "width" "width" (defArgs (top 6)) (defBody (top 6)) (defScope (top 6)) .none kV3 dc3 pm3 an3 cd3 ct3), sl3⟩)
    (c3 : PySem.W.codeIn K cd3 "width" = true)
    (k3 : PySem.W.keepIn K (.ref f3) = true)
    {f4 : Addr} {od4 an4 : Option Addr} {sl4 : Array (Option Value)} {oc4 kV4 dc4 pm4 cd4 ct4 : Value}
    (a4 : PySem.W.nsIn K mainGlobals "is_number" = some (some (.ref f4)))
    (l4 : K.lookup f4 = some ⟨oc4, od4, .func (PySem.W.fnOf "is_number" "is_number" (defArgs (top 7)) (defBody (top 7)) (defScope (top 7)) .none kV4 dc4 pm4 an4 cd4 ct4), sl4⟩)
    (c4 : PySem.W.codeIn K cd4 "is_number" = true)
    (k4 : PySem.W.keepIn K (.ref f4) = true)
    {f5 : Addr} {od5 an5 : Option Addr} {sl5 : Array (Option Value)} {oc5 kV5 dc5 pm5 cd5 ct5 : Value}
    (a5 : PySem.W.nsIn K mainGlobals "is_row_count" = some (some (.ref f5)))
    (l5 : K.lookup f5 = some ⟨oc5, od5, .func (PySem.W.fnOf "is_row_count" "is_row_count" (defArgs (top 8)) (defBody (top 8)) (defScope (top 8)) .none kV5 dc5 pm5 an5 cd5 ct5), sl5⟩)
    (c5 : PySem.W.codeIn K cd5 "is_row_count" = true)
    (k5 : PySem.W.keepIn K (.ref f5) = true)
    {f6 : Addr} {od6 an6 : Option Addr} {sl6 : Array (Option Value)} {oc6 kV6 dc6 pm6 cd6 ct6 : Value}
    (a6 : PySem.W.nsIn K mainGlobals "is_column_count" = some (some (.ref f6)))
    (l6 : K.lookup f6 = some ⟨oc6, od6, .func (PySem.W.fnOf "is_column_count" "is_column_count" (defArgs (top 9)) (defBody (top 9)) (defScope (top 9)) .none kV6 dc6 pm6 an6 cd6 ct6), sl6⟩)
    (c6 : PySem.W.codeIn K cd6 "is_column_count" = true)
    (k6 : PySem.W.keepIn K (.ref f6) = true)
    {f7 : Addr} {od7 an7 : Option Addr} {sl7 : Array (Option Value)} {oc7 kV7 dc7 pm7 cd7 ct7 : Value}
    (a7 : PySem.W.nsIn K mainGlobals "has" = some (some (.ref f7)))
    (l7 : K.lookup f7 = some ⟨oc7, od7, .func (PySem.W.fnOf "has" "has" (defArgs (top 10)) (defBody (top 10)) (defScope (top 10)) .none kV7 dc7 pm7 an7 cd7 ct7), sl7⟩)
    (c7 : PySem.W.codeIn K cd7 "has" = true)
    (k7 : PySem.W.keepIn K (.ref f7) = true)
    {f8 : Addr} {od8 an8 : Option Addr} {sl8 : Array (Option Value)} {oc8 kV8 dc8 pm8 cd8 ct8 : Value}
    (a8 : PySem.W.nsIn K mainGlobals "check_table" = some (some (.ref f8)))
    (l8 : K.lookup f8 = some ⟨oc8, od8, .func (PySem.W.fnOf "check_table" "check_table" (defArgs (top 11)) (defBody (top 11)) (defScope (top 11)) .none kV8 dc8 pm8 an8 cd8 ct8), sl8⟩)
    (c8 : PySem.W.codeIn K cd8 "check_table" = true)
    (k8 : PySem.W.keepIn K (.ref f8) = true)
    {f9 : Addr} {od9 an9 : Option Addr} {sl9 : Array (Option Value)} {oc9 kV9 dc9 pm9 cd9 ct9 : Value}
    (a9 : PySem.W.nsIn K mainGlobals "column_signs" = some (some (.ref f9)))
    (l9 : K.lookup f9 = some ⟨oc9, od9, .func (PySem.W.fnOf "column_signs" "column_signs" (defArgs (top 12)) (defBody (top 12)) (defScope (top 12)) .none kV9 dc9 pm9 an9 cd9 ct9), sl9⟩)
    (c9 : PySem.W.codeIn K cd9 "column_signs" = true)
    (k9 : PySem.W.keepIn K (.ref f9) = true)
    {f10 : Addr} {od10 an10 : Option Addr} {sl10 : Array (Option Value)} {oc10 kV10 dc10 pm10 cd10 ct10 : Value}
    (a10 : PySem.W.nsIn K mainGlobals "turned" = some (some (.ref f10)))
    (l10 : K.lookup f10 = some ⟨oc10, od10, .func (PySem.W.fnOf "turned" "turned" (defArgs (top 13)) (defBody (top 13)) (defScope (top 13)) .none kV10 dc10 pm10 an10 cd10 ct10), sl10⟩)
    (c10 : PySem.W.codeIn K cd10 "turned" = true)
    (k10 : PySem.W.keepIn K (.ref f10) = true)
    {f11 : Addr} {od11 an11 : Option Addr} {sl11 : Array (Option Value)} {oc11 kV11 dc11 pm11 cd11 ct11 : Value}
    (a11 : PySem.W.nsIn K mainGlobals "are_numbers" = some (some (.ref f11)))
    (l11 : K.lookup f11 = some ⟨oc11, od11, .func (PySem.W.fnOf "are_numbers" "are_numbers" (defArgs (top 15)) (defBody (top 15)) (defScope (top 15)) .none kV11 dc11 pm11 an11 cd11 ct11), sl11⟩)
    (c11 : PySem.W.codeIn K cd11 "are_numbers" = true)
    (k11 : PySem.W.keepIn K (.ref f11) = true)
    {f12 : Addr} {od12 an12 : Option Addr} {sl12 : Array (Option Value)} {oc12 kV12 dc12 pm12 cd12 ct12 : Value}
    (a12 : PySem.W.nsIn K mainGlobals "signs_where_less" = some (some (.ref f12)))
    (l12 : K.lookup f12 = some ⟨oc12, od12, .func (PySem.W.fnOf "signs_where_less" "signs_where_less" (defArgs (top 17)) (defBody (top 17)) (defScope (top 17)) .none kV12 dc12 pm12 an12 cd12 ct12), sl12⟩)
    (c12 : PySem.W.codeIn K cd12 "signs_where_less" = true)
    (k12 : PySem.W.keepIn K (.ref f12) = true)
    {f13 : Addr} {od13 an13 : Option Addr} {sl13 : Array (Option Value)} {oc13 kV13 dc13 pm13 cd13 ct13 : Value}
    (a13 : PySem.W.nsIn K mainGlobals "has_where_less" = some (some (.ref f13)))
    (l13 : K.lookup f13 = some ⟨oc13, od13, .func (PySem.W.fnOf "has_where_less" "has_where_less" (defArgs (top 18)) (defBody (top 18)) (defScope (top 18)) .none kV13 dc13 pm13 an13 cd13 ct13), sl13⟩)
    (c13 : PySem.W.codeIn K cd13 "has_where_less" = true)
    (k13 : PySem.W.keepIn K (.ref f13) = true)
    {f14 : Addr} {od14 an14 : Option Addr} {sl14 : Array (Option Value)} {oc14 kV14 dc14 pm14 cd14 ct14 : Value}
    (a14 : PySem.W.nsIn K mainGlobals "opposites" = some (some (.ref f14)))
    (l14 : K.lookup f14 = some ⟨oc14, od14, .func (PySem.W.fnOf "opposites" "opposites" (defArgs (top 19)) (defBody (top 19)) (defScope (top 19)) .none kV14 dc14 pm14 an14 cd14 ct14), sl14⟩)
    (c14 : PySem.W.codeIn K cd14 "opposites" = true)
    (k14 : PySem.W.keepIn K (.ref f14) = true)
    {f15 : Addr} {od15 an15 : Option Addr} {sl15 : Array (Option Value)} {oc15 kV15 dc15 pm15 cd15 ct15 : Value}
    (a15 : PySem.W.findIn K (.ref CCross) "__init__" = some (some (.ref f15)))
    (i15 : PySem.W.isFn K (.ref f15) = true)
    (mk15 : PySem.W.makesIn K CCross = true)
    (kc15 : PySem.W.keepIn K (.ref CCross) = true)
    (l15 : K.lookup f15 = some ⟨oc15, od15, .func (PySem.W.fnOf "__init__" "Cross.__init__" (defArgs (inClass (top 23) 0)) (defBody (inClass (top 23) 0)) (defScope (inClass (top 23) 0)) .none kV15 dc15 pm15 an15 cd15 ct15), sl15⟩)
    (c15 : PySem.W.codeIn K cd15 "Cross.__init__" = true)
    (k15 : PySem.W.keepIn K (.ref f15) = true)
    {f16 : Addr} {od16 an16 : Option Addr} {sl16 : Array (Option Value)} {oc16 kV16 dc16 pm16 cd16 ct16 : Value}
    (a16 : PySem.W.findIn K (.ref CSteps) "__init__" = some (some (.ref f16)))
    (i16 : PySem.W.isFn K (.ref f16) = true)
    (mk16 : PySem.W.makesIn K CSteps = true)
    (kc16 : PySem.W.keepIn K (.ref CSteps) = true)
    (l16 : K.lookup f16 = some ⟨oc16, od16, .func (PySem.W.fnOf "__init__" "Steps.__init__" (defArgs (inClass (top 22) 0)) (defBody (inClass (top 22) 0)) (defScope (inClass (top 22) 0)) .none kV16 dc16 pm16 an16 cd16 ct16), sl16⟩)
    (c16 : PySem.W.codeIn K cd16 "Steps.__init__" = true)
    (k16 : PySem.W.keepIn K (.ref f16) = true)
    {f17 : Addr} {od17 an17 : Option Addr} {sl17 : Array (Option Value)} {oc17 kV17 dc17 pm17 cd17 ct17 : Value}
    (a17 : PySem.W.findIn K (.ref CCross) "shows" = some (some (.ref f17)))
    (i17 : PySem.W.isFn K (.ref f17) = true)
    (l17 : K.lookup f17 = some ⟨oc17, od17, .func (PySem.W.fnOf "shows" "Cross.shows" (defArgs (inClass (top 23) 1)) (defBody (inClass (top 23) 1)) (defScope (inClass (top 23) 1)) .none kV17 dc17 pm17 an17 cd17 ct17), sl17⟩)
    (c17 : PySem.W.codeIn K cd17 "Cross.shows" = true)
    (k17 : PySem.W.keepIn K (.ref f17) = true)
    {f18 : Addr} {od18 an18 : Option Addr} {sl18 : Array (Option Value)} {oc18 kV18 dc18 pm18 cd18 ct18 : Value}
    (a18 : PySem.W.findIn K (.ref CSteps) "shows" = some (some (.ref f18)))
    (i18 : PySem.W.isFn K (.ref f18) = true)
    (l18 : K.lookup f18 = some ⟨oc18, od18, .func (PySem.W.fnOf "shows" "Steps.shows" (defArgs (inClass (top 22) 1)) (defBody (inClass (top 22) 1)) (defScope (inClass (top 22) 1)) .none kV18 dc18 pm18 an18 cd18 ct18), sl18⟩)
    (c18 : PySem.W.codeIn K cd18 "Steps.shows" = true)
    (k18 : PySem.W.keepIn K (.ref f18) = true)
    {f19 : Addr} {od19 an19 : Option Addr} {sl19 : Array (Option Value)} {oc19 kV19 dc19 pm19 cd19 ct19 : Value}
    (a19 : PySem.W.nsIn K mainGlobals "signs_count" = some (some (.ref f19)))
    (l19 : K.lookup f19 = some ⟨oc19, od19, .func (PySem.W.fnOf "signs_count" "signs_count" (defArgs (top 34)) (defBody (top 34)) (defScope (top 34)) .none kV19 dc19 pm19 an19 cd19 ct19), sl19⟩)
    (c19 : PySem.W.codeIn K cd19 "signs_count" = true)
    (k19 : PySem.W.keepIn K (.ref f19) = true)
    {f20 : Addr} {od20 an20 : Option Addr} {sl20 : Array (Option Value)} {oc20 kV20 dc20 pm20 cd20 ct20 : Value}
    (a20 : PySem.W.nsIn K mainGlobals "place_had_alone" = some (some (.ref f20)))
    (l20 : K.lookup f20 = some ⟨oc20, od20, .func (PySem.W.fnOf "place_had_alone" "place_had_alone" (defArgs (top 35)) (defBody (top 35)) (defScope (top 35)) .none kV20 dc20 pm20 an20 cd20 ct20), sl20⟩)
    (c20 : PySem.W.codeIn K cd20 "place_had_alone" = true)
    (k20 : PySem.W.keepIn K (.ref f20) = true)
    {f21 : Addr} {od21 an21 : Option Addr} {sl21 : Array (Option Value)} {oc21 kV21 dc21 pm21 cd21 ct21 : Value}
    (a21 : PySem.W.nsIn K mainGlobals "greatest_lacking" = some (some (.ref f21)))
    (l21 : K.lookup f21 = some ⟨oc21, od21, .func (PySem.W.fnOf "greatest_lacking" "greatest_lacking" (defArgs (top 36)) (defBody (top 36)) (defScope (top 36)) .none kV21 dc21 pm21 an21 cd21 ct21), sl21⟩)
    (c21 : PySem.W.codeIn K cd21 "greatest_lacking" = true)
    (k21 : PySem.W.keepIn K (.ref f21) = true)
    {f22 : Addr} {od22 an22 : Option Addr} {sl22 : Array (Option Value)} {oc22 kV22 dc22 pm22 cd22 ct22 : Value}
    (a22 : PySem.W.nsIn K mainGlobals "find_cross" = some (some (.ref f22)))
    {cT Pt : Addr} {ocT : Value} {odT : Option Addr} {vsT : Array Value} {slT : Array (Option Value)}
    (l22 : K.lookup f22 = some ⟨oc22, od22, .func (PySem.W.fnOf "find_cross" "find_cross" (defArgs (top 37)) (defBody (top 37)) (defScope (top 37)) .none kV22 dc22 pm22 an22 cd22 ct22), sl22⟩)
    (c22 : PySem.W.codeIn K cd22 "find_cross" = true)
    (k22 : PySem.W.keepIn K (.ref f22) = true)
    (ecd : cd22 = .ref cT)
    (lcT : K.lookup cT = some ⟨ocT, odT, .fields vsT, slT⟩)
    (pcT : vsT[11]? = some (.ref Pt))
    (hKt : K.lookup Pt = none)
    {f23 : Addr} {od23 an23 : Option Addr} {sl23 : Array (Option Value)} {oc23 kV23 dc23 pm23 cd23 ct23 : Value}
    (a23 : PySem.W.nsIn K mainGlobals "make_steps" = some (some (.ref f23)))
    (l23 : K.lookup f23 = some ⟨oc23, od23, .func (PySem.W.fnOf "make_steps" "make_steps" (defArgs (top 38)) (defBody (top 38)) (defScope (top 38)) .none kV23 dc23 pm23 an23 cd23 ct23), sl23⟩)
    (c23 : PySem.W.codeIn K cd23 "make_steps" = true)
    (k23 : PySem.W.keepIn K (.ref f23) = true)
    {f24 : Addr} {od24 an24 : Option Addr} {sl24 : Array (Option Value)} {oc24 kV24 dc24 pm24 cd24 ct24 : Value}
    (a24 : PySem.W.nsIn K mainGlobals "steps" = some (some (.ref f24)))
    (l24 : K.lookup f24 = some ⟨oc24, od24, .func (PySem.W.fnOf "steps" "steps" (defArgs (top 33)) (defBody (top 33)) (defScope (top 33)) .none kV24 dc24 pm24 an24 cd24 ct24), sl24⟩)
    (c24 : PySem.W.codeIn K cd24 "steps" = true)
    (k24 : PySem.W.keepIn K (.ref f24) = true)
    {f25 : Addr} {od25 an25 : Option Addr} {sl25 : Array (Option Value)} {oc25 kV25 dc25 pm25 cd25 ct25 : Value}
    (a25 : PySem.W.nsIn K mainGlobals "_law_table" = some (some (.ref f25)))
    (l25 : K.lookup f25 = some ⟨oc25, od25, .func (PySem.W.fnOf "_law_table" "_law_table" (defArgs (top 40)) (defBody (top 40)) (defScope (top 40)) .none kV25 dc25 pm25 an25 cd25 ct25), sl25⟩)
    (c25 : PySem.W.codeIn K cd25 "_law_table" = true)
    (k25 : PySem.W.keepIn K (.ref f25) = true)
    {f26 : Addr} {od26 an26 : Option Addr} {sl26 : Array (Option Value)} {oc26 kV26 dc26 pm26 cd26 ct26 : Value}
    (a26 : PySem.W.nsIn K mainGlobals "_law_turned" = some (some (.ref f26)))
    (l26 : K.lookup f26 = some ⟨oc26, od26, .func (PySem.W.fnOf "_law_turned" "_law_turned" (defArgs (top 41)) (defBody (top 41)) (defScope (top 41)) .none kV26 dc26 pm26 an26 cd26 ct26), sl26⟩)
    (c26 : PySem.W.codeIn K cd26 "_law_turned" = true)
    (k26 : PySem.W.keepIn K (.ref f26) = true)
    {f27 : Addr} {od27 an27 : Option Addr} {sl27 : Array (Option Value)} {oc27 kV27 dc27 pm27 cd27 ct27 : Value}
    (a27 : PySem.W.nsIn K mainGlobals "_law_numbers" = some (some (.ref f27)))
    (l27 : K.lookup f27 = some ⟨oc27, od27, .func (PySem.W.fnOf "_law_numbers" "_law_numbers" (defArgs (top 42)) (defBody (top 42)) (defScope (top 42)) .none kV27 dc27 pm27 an27 cd27 ct27), sl27⟩)
    (c27 : PySem.W.codeIn K cd27 "_law_numbers" = true)
    (k27 : PySem.W.keepIn K (.ref f27) = true)
    {f28 : Addr} {od28 an28 : Option Addr} {sl28 : Array (Option Value)} {oc28 kV28 dc28 pm28 cd28 ct28 : Value}
    (a28 : PySem.W.nsIn K mainGlobals "_law_has" = some (some (.ref f28)))
    (l28 : K.lookup f28 = some ⟨oc28, od28, .func (PySem.W.fnOf "_law_has" "_law_has" (defArgs (top 43)) (defBody (top 43)) (defScope (top 43)) .none kV28 dc28 pm28 an28 cd28 ct28), sl28⟩)
    (c28 : PySem.W.codeIn K cd28 "_law_has" = true)
    (k28 : PySem.W.keepIn K (.ref f28) = true)
    {f29 : Addr} {od29 an29 : Option Addr} {sl29 : Array (Option Value)} {oc29 kV29 dc29 pm29 cd29 ct29 : Value}
    (a29 : PySem.W.nsIn K mainGlobals "_law_hasnt" = some (some (.ref f29)))
    (l29 : K.lookup f29 = some ⟨oc29, od29, .func (PySem.W.fnOf "_law_hasnt" "_law_hasnt" (defArgs (top 44)) (defBody (top 44)) (defScope (top 44)) .none kV29 dc29 pm29 an29 cd29 ct29), sl29⟩)
    (c29 : PySem.W.codeIn K cd29 "_law_hasnt" = true)
    (k29 : PySem.W.keepIn K (.ref f29) = true)
    {f30 : Addr} {od30 an30 : Option Addr} {sl30 : Array (Option Value)} {oc30 kV30 dc30 pm30 cd30 ct30 : Value}
    (a30 : PySem.W.nsIn K mainGlobals "_law_cross" = some (some (.ref f30)))
    (l30 : K.lookup f30 = some ⟨oc30, od30, .func (PySem.W.fnOf "_law_cross" "_law_cross" (defArgs (top 45)) (defBody (top 45)) (defScope (top 45)) .none kV30 dc30 pm30 an30 cd30 ct30), sl30⟩)
    (c30 : PySem.W.codeIn K cd30 "_law_cross" = true)
    (k30 : PySem.W.keepIn K (.ref f30) = true)
    {f31 : Addr} {od31 an31 : Option Addr} {sl31 : Array (Option Value)} {oc31 kV31 dc31 pm31 cd31 ct31 : Value}
    (a31 : PySem.W.nsIn K mainGlobals "_law_steps" = some (some (.ref f31)))
    (l31 : K.lookup f31 = some ⟨oc31, od31, .func (PySem.W.fnOf "_law_steps" "_law_steps" (defArgs (top 46)) (defBody (top 46)) (defScope (top 46)) .none kV31 dc31 pm31 an31 cd31 ct31), sl31⟩)
    (c31 : PySem.W.codeIn K cd31 "_law_steps" = true)
    (k31 : PySem.W.keepIn K (.ref f31) = true)
    {f32 : Addr} {od32 an32 : Option Addr} {sl32 : Array (Option Value)} {oc32 kV32 dc32 pm32 cd32 ct32 : Value}
    (a32 : PySem.W.nsIn K mainGlobals "_law_due" = some (some (.ref f32)))
    (l32 : K.lookup f32 = some ⟨oc32, od32, .func (PySem.W.fnOf "_law_due" "_law_due" (defArgs (top 47)) (defBody (top 47)) (defScope (top 47)) .none kV32 dc32 pm32 an32 cd32 ct32), sl32⟩)
    (c32 : PySem.W.codeIn K cd32 "_law_due" = true)
    (k32 : PySem.W.keepIn K (.ref f32) = true)
    {f33 : Addr} {od33 an33 : Option Addr} {sl33 : Array (Option Value)} {oc33 kV33 dc33 pm33 cd33 ct33 : Value}
    (a33 : PySem.W.nsIn K mainGlobals "_law_right" = some (some (.ref f33)))
    (l33 : K.lookup f33 = some ⟨oc33, od33, .func (PySem.W.fnOf "_law_right" "_law_right" (defArgs (top 48)) (defBody (top 48)) (defScope (top 48)) .none kV33 dc33 pm33 an33 cd33 ct33), sl33⟩)
    (c33 : PySem.W.codeIn K cd33 "_law_right" = true)
    (k33 : PySem.W.keepIn K (.ref f33) = true)
    {f34 : Addr} {od34 an34 : Option Addr} {sl34 : Array (Option Value)} {oc34 kV34 dc34 pm34 cd34 ct34 : Value}
    (a34 : PySem.W.nsIn K mainGlobals "law" = some (some (.ref f34)))
    (l34 : K.lookup f34 = some ⟨oc34, od34, .func (PySem.W.fnOf "law" "law" (defArgs (top 49)) (defBody (top 49)) (defScope (top 49)) .none kV34 dc34 pm34 an34 cd34 ct34), sl34⟩)
    (c34 : PySem.W.codeIn K cd34 "law" = true)
    (k34 : PySem.W.keepIn K (.ref f34) = true)
    (z_max : PySem.W.nsIn K mainGlobals "max" = some none)
    (z_len : PySem.W.nsIn K mainGlobals "len" = some none)
    (z_sum : PySem.W.nsIn K mainGlobals "sum" = some none)
    (z_all : PySem.W.nsIn K mainGlobals "all" = some none)
    (z_any : PySem.W.nsIn K mainGlobals "any" = some none)
    (z_sorted : PySem.W.nsIn K mainGlobals "sorted" = some none)
    (z_isinstance : PySem.W.nsIn K mainGlobals "isinstance" = some none)
    (z_list : PySem.W.nsIn K mainGlobals "list" = some none)
    (z_str : PySem.W.nsIn K mainGlobals "str" = some none)
    (z_int : PySem.W.nsIn K mainGlobals "int" = some none)
    (z_bool : PySem.W.nsIn K mainGlobals "bool" = some none)
    (z_set : PySem.W.nsIn K mainGlobals "set" = some none)
    (z_range : PySem.W.nsIn K mainGlobals "range" = some none)
    (z_enumerate : PySem.W.nsIn K mainGlobals "enumerate" = some none)
    (z_zip : PySem.W.nsIn K mainGlobals "zip" = some none) :
    ∃ (fd : FuncData) (c Pt : Addr), PySem.W.tabIn K "find_cross" = some (c, Pt) ∧ K.lookup Pt = none ∧ (∀ (s : Shared) (v : Value), BindsTo s fd ⟨[v], []⟩ [("_law_script", v)]) ∧ ∀ base : Heap, K.In base → base.Ns mainGlobals mg → PySem.W.CodeHd base c Pt → base.BuiltinsAt mg Pt → FnOk l.prog w K mg base CX0 22 fa fd ["_law_script"] (spLaw K Pt) := by
  have e := hfa.symm.trans (PySem.W.mg_of X G a34)
  cases e
  have T : Nm mg := ⟨PySem.W.mg_none_of X G z_len, PySem.W.mg_none_of X G z_sum, PySem.W.mg_none_of X G z_all, PySem.W.mg_none_of X G z_any, PySem.W.mg_none_of X G z_sorted, PySem.W.mg_none_of X G z_isinstance, PySem.W.mg_none_of X G z_list, PySem.W.mg_none_of X G z_str, PySem.W.mg_none_of X G z_int, PySem.W.mg_none_of X G z_bool, PySem.W.mg_none_of X G z_set, PySem.W.mg_none_of X G z_range, PySem.W.mg_none_of X G z_enumerate, PySem.W.mg_none_of X G z_zip⟩
  have n_max := PySem.W.mg_none_of X G z_max
  obtain ⟨cl, ecl⟩ : ∃ cl : Str → Addr, cl = clOf [("Answer", CAnswer), ("Beside", CBeside), ("Cross", CCross), ("Line", CLine), ("Mutual", CMutual), ("Neither", CNeither), ("Ranks", CRanks), ("Round", CRound), ("Self", CSelf), ("Steps", CSteps), ("Stretches", CStretches)] := ⟨_, rfl⟩
  have eAnswer : cl "Answer" = CAnswer := by rw [ecl, clOf_hd]
  have eBeside : cl "Beside" = CBeside := by rw [ecl, clOf_tl (show (("Beside" : Str) == "Answer") = false by decide +kernel), clOf_hd]
  have eCross : cl "Cross" = CCross := by rw [ecl, clOf_tl (show (("Cross" : Str) == "Answer") = false by decide +kernel), clOf_tl (show (("Cross" : Str) == "Beside") = false by decide +kernel), clOf_hd]
  have eLine : cl "Line" = CLine := by rw [ecl, clOf_tl (show (("Line" : Str) == "Answer") = false by decide +kernel), clOf_tl (show (("Line" : Str) == "Beside") = false by decide +kernel), clOf_tl (show (("Line" : Str) == "Cross") = false by decide +kernel), clOf_hd]
  have eMutual : cl "Mutual" = CMutual := by rw [ecl, clOf_tl (show (("Mutual" : Str) == "Answer") = false by decide +kernel), clOf_tl (show (("Mutual" : Str) == "Beside") = false by decide +kernel), clOf_tl (show (("Mutual" : Str) == "Cross") = false by decide +kernel), clOf_tl (show (("Mutual" : Str) == "Line") = false by decide +kernel), clOf_hd]
  have eNeither : cl "Neither" = CNeither := by rw [ecl, clOf_tl (show (("Neither" : Str) == "Answer") = false by decide +kernel), clOf_tl (show (("Neither" : Str) == "Beside") = false by decide +kernel), clOf_tl (show (("Neither" : Str) == "Cross") = false by decide +kernel), clOf_tl (show (("Neither" : Str) == "Line") = false by decide +kernel), clOf_tl (show (("Neither" : Str) == "Mutual") = false by decide +kernel), clOf_hd]
  have eRanks : cl "Ranks" = CRanks := by rw [ecl, clOf_tl (show (("Ranks" : Str) == "Answer") = false by decide +kernel), clOf_tl (show (("Ranks" : Str) == "Beside") = false by decide +kernel), clOf_tl (show (("Ranks" : Str) == "Cross") = false by decide +kernel), clOf_tl (show (("Ranks" : Str) == "Line") = false by decide +kernel), clOf_tl (show (("Ranks" : Str) == "Mutual") = false by decide +kernel), clOf_tl (show (("Ranks" : Str) == "Neither") = false by decide +kernel), clOf_hd]
  have eRound : cl "Round" = CRound := by rw [ecl, clOf_tl (show (("Round" : Str) == "Answer") = false by decide +kernel), clOf_tl (show (("Round" : Str) == "Beside") = false by decide +kernel), clOf_tl (show (("Round" : Str) == "Cross") = false by decide +kernel), clOf_tl (show (("Round" : Str) == "Line") = false by decide +kernel), clOf_tl (show (("Round" : Str) == "Mutual") = false by decide +kernel), clOf_tl (show (("Round" : Str) == "Neither") = false by decide +kernel), clOf_tl (show (("Round" : Str) == "Ranks") = false by decide +kernel), clOf_hd]
  have eSelf : cl "Self" = CSelf := by rw [ecl, clOf_tl (show (("Self" : Str) == "Answer") = false by decide +kernel), clOf_tl (show (("Self" : Str) == "Beside") = false by decide +kernel), clOf_tl (show (("Self" : Str) == "Cross") = false by decide +kernel), clOf_tl (show (("Self" : Str) == "Line") = false by decide +kernel), clOf_tl (show (("Self" : Str) == "Mutual") = false by decide +kernel), clOf_tl (show (("Self" : Str) == "Neither") = false by decide +kernel), clOf_tl (show (("Self" : Str) == "Ranks") = false by decide +kernel), clOf_tl (show (("Self" : Str) == "Round") = false by decide +kernel), clOf_hd]
  have eSteps : cl "Steps" = CSteps := by rw [ecl, clOf_tl (show (("Steps" : Str) == "Answer") = false by decide +kernel), clOf_tl (show (("Steps" : Str) == "Beside") = false by decide +kernel), clOf_tl (show (("Steps" : Str) == "Cross") = false by decide +kernel), clOf_tl (show (("Steps" : Str) == "Line") = false by decide +kernel), clOf_tl (show (("Steps" : Str) == "Mutual") = false by decide +kernel), clOf_tl (show (("Steps" : Str) == "Neither") = false by decide +kernel), clOf_tl (show (("Steps" : Str) == "Ranks") = false by decide +kernel), clOf_tl (show (("Steps" : Str) == "Round") = false by decide +kernel), clOf_tl (show (("Steps" : Str) == "Self") = false by decide +kernel), clOf_hd]
  have eStretches : cl "Stretches" = CStretches := by rw [ecl, clOf_tl (show (("Stretches" : Str) == "Answer") = false by decide +kernel), clOf_tl (show (("Stretches" : Str) == "Beside") = false by decide +kernel), clOf_tl (show (("Stretches" : Str) == "Cross") = false by decide +kernel), clOf_tl (show (("Stretches" : Str) == "Line") = false by decide +kernel), clOf_tl (show (("Stretches" : Str) == "Mutual") = false by decide +kernel), clOf_tl (show (("Stretches" : Str) == "Neither") = false by decide +kernel), clOf_tl (show (("Stretches" : Str) == "Ranks") = false by decide +kernel), clOf_tl (show (("Stretches" : Str) == "Round") = false by decide +kernel), clOf_tl (show (("Stretches" : Str) == "Self") = false by decide +kernel), clOf_tl (show (("Stretches" : Str) == "Steps") = false by decide +kernel), clOf_hd]
  have eall : ∀ n ∈ klasses, (n, cl n) ∈ ([("Answer", CAnswer), ("Beside", CBeside), ("Cross", CCross), ("Line", CLine), ("Mutual", CMutual), ("Neither", CNeither), ("Ranks", CRanks), ("Round", CRound), ("Self", CSelf), ("Steps", CSteps), ("Stretches", CStretches)] : List (Str × Addr)) := by
    intro n hn
    simp only [klasses, List.mem_cons, List.mem_nil_iff, or_false] at hn
    rcases hn with rfl | rfl | rfl | rfl | rfl | rfl | rfl | rfl | rfl | rfl | rfl
    · rw [eAnswer]; exact List.mem_cons_self
    · rw [eBeside]; exact List.mem_cons_of_mem _ (List.mem_cons_self)
    · rw [eCross]; exact List.mem_cons_of_mem _ (List.mem_cons_of_mem _ (List.mem_cons_self))
    · rw [eLine]; exact List.mem_cons_of_mem _ (List.mem_cons_of_mem _ (List.mem_cons_of_mem _ (List.mem_cons_self)))
    · rw [eMutual]; exact List.mem_cons_of_mem _ (List.mem_cons_of_mem _ (List.mem_cons_of_mem _ (List.mem_cons_of_mem _ (List.mem_cons_self))))
    · rw [eNeither]; exact List.mem_cons_of_mem _ (List.mem_cons_of_mem _ (List.mem_cons_of_mem _ (List.mem_cons_of_mem _ (List.mem_cons_of_mem _ (List.mem_cons_self)))))
    · rw [eRanks]; exact List.mem_cons_of_mem _ (List.mem_cons_of_mem _ (List.mem_cons_of_mem _ (List.mem_cons_of_mem _ (List.mem_cons_of_mem _ (List.mem_cons_of_mem _ (List.mem_cons_self))))))
    · rw [eRound]; exact List.mem_cons_of_mem _ (List.mem_cons_of_mem _ (List.mem_cons_of_mem _ (List.mem_cons_of_mem _ (List.mem_cons_of_mem _ (List.mem_cons_of_mem _ (List.mem_cons_of_mem _ (List.mem_cons_self)))))))
    · rw [eSelf]; exact List.mem_cons_of_mem _ (List.mem_cons_of_mem _ (List.mem_cons_of_mem _ (List.mem_cons_of_mem _ (List.mem_cons_of_mem _ (List.mem_cons_of_mem _ (List.mem_cons_of_mem _ (List.mem_cons_of_mem _ (List.mem_cons_self))))))))
    · rw [eSteps]; exact List.mem_cons_of_mem _ (List.mem_cons_of_mem _ (List.mem_cons_of_mem _ (List.mem_cons_of_mem _ (List.mem_cons_of_mem _ (List.mem_cons_of_mem _ (List.mem_cons_of_mem _ (List.mem_cons_of_mem _ (List.mem_cons_of_mem _ (List.mem_cons_self)))))))))
    · rw [eStretches]; exact List.mem_cons_of_mem _ (List.mem_cons_of_mem _ (List.mem_cons_of_mem _ (List.mem_cons_of_mem _ (List.mem_cons_of_mem _ (List.mem_cons_of_mem _ (List.mem_cons_of_mem _ (List.mem_cons_of_mem _ (List.mem_cons_of_mem _ (List.mem_cons_of_mem _ (List.mem_cons_self))))))))))
  have Gk : Ks K mg cl := by
    refine ⟨fun n hn => ?_, fun n hn => ?_, fun n hn k hk => clsOnes_at ones (eall n hn) (eall k hk)⟩
    · simp only [klasses, List.mem_cons, List.mem_nil_iff, or_false] at hn
      rcases hn with rfl | rfl | rfl | rfl | rfl | rfl | rfl | rfl | rfl | rfl | rfl
      · rw [eAnswer]; exact PySem.W.mg_of X G gAnswer
      · rw [eBeside]; exact PySem.W.mg_of X G gBeside
      · rw [eCross]; exact PySem.W.mg_of X G gCross
      · rw [eLine]; exact PySem.W.mg_of X G gLine
      · rw [eMutual]; exact PySem.W.mg_of X G gMutual
      · rw [eNeither]; exact PySem.W.mg_of X G gNeither
      · rw [eRanks]; exact PySem.W.mg_of X G gRanks
      · rw [eRound]; exact PySem.W.mg_of X G gRound
      · rw [eSelf]; exact PySem.W.mg_of X G gSelf
      · rw [eSteps]; exact PySem.W.mg_of X G gSteps
      · rw [eStretches]; exact PySem.W.mg_of X G gStretches
    · simp only [klasses, List.mem_cons, List.mem_nil_iff, or_false] at hn
      rcases hn with rfl | rfl | rfl | rfl | rfl | rfl | rfl | rfl | rfl | rfl | rfl
      · rw [eAnswer]; exact ⟨⟨pgAnswer, hdAnswer, poAnswer, saAnswer⟩, haAnswer, hn, htk, hmAnswer⟩
      · rw [eBeside]; exact ⟨⟨pgBeside, hdBeside, poBeside, saBeside⟩, haBeside, hn, htk, hmBeside⟩
      · rw [eCross]; exact ⟨⟨pgCross, hdCross, poCross, saCross⟩, haCross, hn, htk, hmCross⟩
      · rw [eLine]; exact ⟨⟨pgLine, hdLine, poLine, saLine⟩, haLine, hn, htk, hmLine⟩
      · rw [eMutual]; exact ⟨⟨pgMutual, hdMutual, poMutual, saMutual⟩, haMutual, hn, htk, hmMutual⟩
      · rw [eNeither]; exact ⟨⟨pgNeither, hdNeither, poNeither, saNeither⟩, haNeither, hn, htk, hmNeither⟩
      · rw [eRanks]; exact ⟨⟨pgRanks, hdRanks, poRanks, saRanks⟩, haRanks, hn, htk, hmRanks⟩
      · rw [eRound]; exact ⟨⟨pgRound, hdRound, poRound, saRound⟩, haRound, hn, htk, hmRound⟩
      · rw [eSelf]; exact ⟨⟨pgSelf, hdSelf, poSelf, saSelf⟩, haSelf, hn, htk, hmSelf⟩
      · rw [eSteps]; exact ⟨⟨pgSteps, hdSteps, poSteps, saSteps⟩, haSteps, hn, htk, hmSteps⟩
      · rw [eStretches]; exact ⟨⟨pgStretches, hdStretches, poStretches, saStretches⟩, haStretches, hn, htk, hmStretches⟩
  have N : Nas K cl := by
    refine ⟨fun p hp => ?_⟩
    simp only [attrs, List.mem_cons, List.mem_nil_iff, or_false] at hp
    rcases hp with rfl | rfl | rfl | rfl | rfl | rfl | rfl | rfl | rfl | rfl | rfl | rfl | rfl | rfl | rfl | rfl | rfl | rfl | rfl | rfl | rfl | rfl
    · show NoAttr K (cl "Beside") "one"; rw [eBeside]; exact nBeside_one
    · show NoAttr K (cl "Beside") "other"; rw [eBeside]; exact nBeside_other
    · show NoAttr K (cl "Beside") "third"; rw [eBeside]; exact nBeside_third
    · show NoAttr K (cl "Cross") "one"; rw [eCross]; exact nCross_one
    · show NoAttr K (cl "Cross") "first"; rw [eCross]; exact nCross_first
    · show NoAttr K (cl "Cross") "other"; rw [eCross]; exact nCross_other
    · show NoAttr K (cl "Cross") "second"; rw [eCross]; exact nCross_second
    · show NoAttr K (cl "Line") "order"; rw [eLine]; exact nLine_order
    · show NoAttr K (cl "Mutual") "one"; rw [eMutual]; exact nMutual_one
    · show NoAttr K (cl "Mutual") "other"; rw [eMutual]; exact nMutual_other
    · show NoAttr K (cl "Neither") "one"; rw [eNeither]; exact nNeither_one
    · show NoAttr K (cl "Neither") "other"; rw [eNeither]; exact nNeither_other
    · show NoAttr K (cl "Ranks") "ranks"; rw [eRanks]; exact nRanks_ranks
    · show NoAttr K (cl "Round") "one"; rw [eRound]; exact nRound_one
    · show NoAttr K (cl "Round") "other"; rw [eRound]; exact nRound_other
    · show NoAttr K (cl "Round") "third"; rw [eRound]; exact nRound_third
    · show NoAttr K (cl "Self") "one"; rw [eSelf]; exact nSelf_one
    · show NoAttr K (cl "Steps") "rows"; rw [eSteps]; exact nSteps_rows
    · show NoAttr K (cl "Steps") "columns"; rw [eSteps]; exact nSteps_columns
    · show NoAttr K (cl "Stretches") "begins"; rw [eStretches]; exact nStretches_begins
    · show NoAttr K (cl "Stretches") "ends"; rw [eStretches]; exact nStretches_ends
    · show NoAttr K (cl "Stretches") "unlike"; rw [eStretches]; exact nStretches_unlike
  have R : ∀ n ∈ klasses, Tru K (cl n) := by
    intro n hn
    simp only [klasses, List.mem_cons, List.mem_nil_iff, or_false] at hn
    rcases hn with rfl | rfl | rfl | rfl | rfl | rfl | rfl | rfl | rfl | rfl | rfl
    · rw [eAnswer]; exact ⟨tbAnswer, tlAnswer⟩
    · rw [eBeside]; exact ⟨tbBeside, tlBeside⟩
    · rw [eCross]; exact ⟨tbCross, tlCross⟩
    · rw [eLine]; exact ⟨tbLine, tlLine⟩
    · rw [eMutual]; exact ⟨tbMutual, tlMutual⟩
    · rw [eNeither]; exact ⟨tbNeither, tlNeither⟩
    · rw [eRanks]; exact ⟨tbRanks, tlRanks⟩
    · rw [eRound]; exact ⟨tbRound, tlRound⟩
    · rw [eSelf]; exact ⟨tbSelf, tlSelf⟩
    · rw [eSteps]; exact ⟨tbSteps, tlSteps⟩
    · rw [eStretches]; exact ⟨tbStretches, tlStretches⟩
  have F1 := fun_mk (st := (top 4)) l1 c1 k1
  have b1 := F1.binds (ps := ["row"]) fun _ _ _ _ _ _ us hl => match us, hl with | [_], _ => rfl
  have F2 := fun_mk (st := (top 5)) l2 c2 k2
  have b2 := F2.binds (ps := ["table"]) fun _ _ _ _ _ _ us hl => match us, hl with | [_], _ => rfl
  have F3 := fun_mk (st := (top 6)) l3 c3 k3
  have b3 := F3.binds (ps := ["table"]) fun _ _ _ _ _ _ us hl => match us, hl with | [_], _ => rfl
  have F4 := fun_mk (st := (top 7)) l4 c4 k4
  have b4 := F4.binds (ps := ["value"]) fun _ _ _ _ _ _ us hl => match us, hl with | [_], _ => rfl
  have F5 := fun_mk (st := (top 8)) l5 c5 k5
  have b5 := F5.binds (ps := ["table", "value"]) fun _ _ _ _ _ _ us hl => match us, hl with | [_, _], _ => rfl
  have F6 := fun_mk (st := (top 9)) l6 c6 k6
  have b6 := F6.binds (ps := ["table", "value"]) fun _ _ _ _ _ _ us hl => match us, hl with | [_, _], _ => rfl
  have F7 := fun_mk (st := (top 10)) l7 c7 k7
  have b7 := F7.binds (ps := ["table", "row", "column"]) fun _ _ _ _ _ _ us hl => match us, hl with | [_, _, _], _ => rfl
  have F8 := fun_mk (st := (top 11)) l8 c8 k8
  have b8 := F8.binds (ps := ["table"]) fun _ _ _ _ _ _ us hl => match us, hl with | [_], _ => rfl
  have F9 := fun_mk (st := (top 12)) l9 c9 k9
  have b9 := F9.binds (ps := ["table", "column"]) fun _ _ _ _ _ _ us hl => match us, hl with | [_, _], _ => rfl
  have F10 := fun_mk (st := (top 13)) l10 c10 k10
  have b10 := F10.binds (ps := ["table"]) fun _ _ _ _ _ _ us hl => match us, hl with | [_], _ => rfl
  have F11 := fun_mk (st := (top 15)) l11 c11 k11
  have b11 := F11.binds (ps := ["values", "length"]) fun _ _ _ _ _ _ us hl => match us, hl with | [_, _], _ => rfl
  have F12 := fun_mk (st := (top 17)) l12 c12 k12
  have b12 := F12.binds (ps := ["number", "others"]) fun _ _ _ _ _ _ us hl => match us, hl with | [_, _], _ => rfl
  have F13 := fun_mk (st := (top 18)) l13 c13 k13
  have b13 := F13.binds (ps := ["table", "rows", "columns"]) fun _ _ _ _ _ _ us hl => match us, hl with | [_, _, _], _ => rfl
  have F14 := fun_mk (st := (top 19)) l14 c14 k14
  have b14 := F14.binds (ps := ["numbers"]) fun _ _ _ _ _ _ us hl => match us, hl with | [_], _ => rfl
  have F15 := fun_mk (st := (inClass (top 23) 0)) l15 c15 k15
  have b15 := F15.binds (ps := ["self", "one", "first", "other", "second"]) fun _ _ _ _ _ _ us hl => match us, hl with | [_, _, _, _, _], _ => rfl
  have F16 := fun_mk (st := (inClass (top 22) 0)) l16 c16 k16
  have b16 := F16.binds (ps := ["self", "rows", "columns"]) fun _ _ _ _ _ _ us hl => match us, hl with | [_, _, _], _ => rfl
  have F17 := fun_mk (st := (inClass (top 23) 1)) l17 c17 k17
  have b17 := F17.binds (ps := ["self", "table"]) fun _ _ _ _ _ _ us hl => match us, hl with | [_, _], _ => rfl
  have F18 := fun_mk (st := (inClass (top 22) 1)) l18 c18 k18
  have b18 := F18.binds (ps := ["self", "table"]) fun _ _ _ _ _ _ us hl => match us, hl with | [_, _], _ => rfl
  have F19 := fun_mk (st := (top 34)) l19 c19 k19
  have b19 := F19.binds (ps := ["texts"]) fun _ _ _ _ _ _ us hl => match us, hl with | [_], _ => rfl
  have F20 := fun_mk (st := (top 35)) l20 c20 k20
  have b20 := F20.binds (ps := ["signs", "others"]) fun _ _ _ _ _ _ us hl => match us, hl with | [_, _], _ => rfl
  have F21 := fun_mk (st := (top 36)) l21 c21 k21
  have b21 := F21.binds (ps := ["signs", "numbers"]) fun _ _ _ _ _ _ us hl => match us, hl with | [_, _], _ => rfl
  have F22 := fun_mk (st := (top 37)) l22 c22 k22
  have b22 := F22.binds (ps := ["table"]) fun _ _ _ _ _ _ us hl => match us, hl with | [_], _ => rfl
  have F23 := fun_mk (st := (top 38)) l23 c23 k23
  have b23 := F23.binds (ps := ["table"]) fun _ _ _ _ _ _ us hl => match us, hl with | [_], _ => rfl
  have F24 := fun_mk (st := (top 33)) l24 c24 k24
  have b24 := F24.binds (ps := ["table"]) fun _ _ _ _ _ _ us hl => match us, hl with | [_], _ => rfl
  have F25 := fun_mk (st := (top 40)) l25 c25 k25
  have b25 := F25.binds (ps := ["_law_script"]) fun _ _ _ _ _ _ us hl => match us, hl with | [_], _ => rfl
  have F26 := fun_mk (st := (top 41)) l26 c26 k26
  have b26 := F26.binds (ps := ["_law_table_here"]) fun _ _ _ _ _ _ us hl => match us, hl with | [_], _ => rfl
  have F27 := fun_mk (st := (top 42)) l27 c27 k27
  have b27 := F27.binds (ps := ["_law_found", "_law_many"]) fun _ _ _ _ _ _ us hl => match us, hl with | [_, _], _ => rfl
  have F28 := fun_mk (st := (top 43)) l28 c28 k28
  have b28 := F28.binds (ps := ["_law_table_here", "_law_row", "_law_column"]) fun _ _ _ _ _ _ us hl => match us, hl with | [_, _, _], _ => rfl
  have F29 := fun_mk (st := (top 44)) l29 c29 k29
  have b29 := F29.binds (ps := ["_law_table_here", "_law_row", "_law_column"]) fun _ _ _ _ _ _ us hl => match us, hl with | [_, _, _], _ => rfl
  have F30 := fun_mk (st := (top 45)) l30 c30 k30
  have b30 := F30.binds (ps := ["_law_table_here", "_law_one", "_law_first", "_law_other", "_law_second"]) fun _ _ _ _ _ _ us hl => match us, hl with | [_, _, _, _, _], _ => rfl
  have F31 := fun_mk (st := (top 46)) l31 c31 k31
  have b31 := F31.binds (ps := ["_law_table_here", "_law_rows", "_law_columns"]) fun _ _ _ _ _ _ us hl => match us, hl with | [_, _, _], _ => rfl
  have F32 := fun_mk (st := (top 47)) l32 c32 k32
  have b32 := F32.binds (ps := ["_law_table_here", "_law_found"]) fun _ _ _ _ _ _ us hl => match us, hl with | [_, _], _ => rfl
  have F33 := fun_mk (st := (top 48)) l33 c33 k33
  have b33 := F33.binds (ps := ["_law_table_here"]) fun _ _ _ _ _ _ us hl => match us, hl with | [_], _ => rfl
  have F34 := fun_mk (st := (top 49)) l34 c34 k34
  refine ⟨PySem.W.fnOf "law" "law" (defArgs (top 49)) (defBody (top 49)) (defScope (top 49)) .none kV34 dc34 pm34 an34 cd34 ct34, cT, Pt, tab_in a22 l22 ecd lcT pcT, hKt, fun s v => .of_eq rfl, fun base _ _ hC hB => ?_⟩
  have c_is_row : DefC l.prog w K mg base 1 "is_row" ["row"] spIsRow := ⟨_, _, ok_is_row F1 T, PySem.W.mg_of X G a1, k1, b1⟩
  have c_is_table : DefC l.prog w K mg base 2 "is_table" ["table"] (spIsTable K) := ⟨_, _, ok_is_table F2 T c_is_row, PySem.W.mg_of X G a2, k2, b2⟩
  have c_width : DefC l.prog w K mg base 1 "width" ["table"] (spWidth K) := ⟨_, _, ok_width F3 T, PySem.W.mg_of X G a3, k3, b3⟩
  have c_is_number : DefC l.prog w K mg base 1 "is_number" ["value"] spIsNum := ⟨_, _, ok_is_number F4 T, PySem.W.mg_of X G a4, k4, b4⟩
  have c_is_row_count : DefC l.prog w K mg base 2 "is_row_count" ["table", "value"] (spIsRowC K) := ⟨_, _, ok_is_row_count F5 T c_is_number, PySem.W.mg_of X G a5, k5, b5⟩
  have c_is_column_count : DefC l.prog w K mg base 2 "is_column_count" ["table", "value"] (spIsColC K) := ⟨_, _, ok_is_column_count F6 T c_is_number c_width, PySem.W.mg_of X G a6, k6, b6⟩
  have c_has : DefC l.prog w K mg base 1 "has" ["table", "row", "column"] (spHas K) := ⟨_, _, ok_has F7 T, PySem.W.mg_of X G a7, k7, b7⟩
  have c_check_table : DefC l.prog w K mg base 3 "check_table" ["table"] (spCheck K) := ⟨_, _, ok_check_table F8 T c_is_table, PySem.W.mg_of X G a8, k8, b8⟩
  have c_column_signs : DefC l.prog w K mg base 1 "column_signs" ["table", "column"] (spColumn K) := ⟨_, _, ok_column_signs F9 T, PySem.W.mg_of X G a9, k9, b9⟩
  have c_turned : DefC l.prog w K mg base 4 "turned" ["table"] (spTurned K) := ⟨_, _, ok_turned F10 T c_check_table c_width c_column_signs, PySem.W.mg_of X G a10, k10, b10⟩
  have c_are_numbers : DefC l.prog w K mg base 2 "are_numbers" ["values", "length"] (spAreNum K) := ⟨_, _, ok_are_numbers F11 T c_is_number, PySem.W.mg_of X G a11, k11, b11⟩
  have c_signs_where_less : DefC l.prog w K mg base 1 "signs_where_less" ["number", "others"] (spLess K) := ⟨_, _, ok_signs_where_less F12 T, PySem.W.mg_of X G a12, k12, b12⟩
  have c_has_where_less : DefC l.prog w K mg base 2 "has_where_less" ["table", "rows", "columns"] (spHasLess K) := ⟨_, _, ok_has_where_less F13 T c_signs_where_less, PySem.W.mg_of X G a13, k13, b13⟩
  have c_opposites : DefC l.prog w K mg base 1 "opposites" ["numbers"] (spOpp K) := ⟨_, _, ok_opposites F14 T, PySem.W.mg_of X G a14, k14, b14⟩
  have c_Cross : MakC l.prog w K mg base 1 "Cross" (cl "Cross") ["self", "one", "first", "other", "second"] (spMkI K cl "Cross" ["one", "first", "other", "second"]) := ⟨⟨_, _, ok_Cross_init F15 Gk N, ⟨by rw [eCross]; exact mk15, by rw [eCross]; exact a15, i15, by rw [eCross]; exact kc15⟩, b15⟩, Gk.m "Cross" (by decide)⟩
  have c_Steps : MakC l.prog w K mg base 1 "Steps" (cl "Steps") ["self", "rows", "columns"] (spMkSt K cl) := ⟨⟨_, _, ok_Steps_init F16 T Gk N, ⟨by rw [eSteps]; exact mk16, by rw [eSteps]; exact a16, i16, by rw [eSteps]; exact kc16⟩, b16⟩, Gk.m "Steps" (by decide)⟩
  have c_shows_Cross : MetC l.prog w K mg base 20 (cl "Cross") "shows" ["self", "table"] (spShowC K cl) := ⟨⟨_, _, (show2_Cross (ok_Cross_shows F17 T Gk N c_is_row_count c_is_column_count c_has)).mono (by decide), ⟨by rw [eCross]; exact a17, i17, k17⟩, b17⟩, (Gk.kl "Cross" (by decide)).cl⟩
  have c_shows_Steps : MetC l.prog w K mg base 20 (cl "Steps") "shows" ["self", "table"] (spShowS K cl) := ⟨⟨_, _, (id (ok_Steps_shows F18 T Gk N c_are_numbers c_width c_has_where_less c_opposites)).mono (by decide), ⟨by rw [eSteps]; exact a18, i18, k18⟩, b18⟩, (Gk.kl "Steps" (by decide)).cl⟩
  have c_signs_count : DefC l.prog w K mg base 1 "signs_count" ["texts"] (spCounts K) := ⟨_, _, ok_signs_count F19 T, PySem.W.mg_of X G a19, k19, b19⟩
  have c_place_had_alone : DefC l.prog w K mg base 1 "place_had_alone" ["signs", "others"] spAlone := ⟨_, _, ok_place_had_alone F20 T, PySem.W.mg_of X G a20, k20, b20⟩
  have c_greatest_lacking : DefC l.prog w K mg base 1 "greatest_lacking" ["signs", "numbers"] (spLacking K) := ⟨_, _, ok_greatest_lacking F21 T n_max, PySem.W.mg_of X G a21, k21, b21⟩
  have c_find_cross : DefC l.prog w K mg base 4 "find_cross" ["table"] (spFindCross K cl Pt) := ⟨_, _, ok_find_cross F22 T ecd hC hB c_signs_count c_place_had_alone c_Cross, PySem.W.mg_of X G a22, k22, b22⟩
  have c_make_steps : DefC l.prog w K mg base 5 "make_steps" ["table"] (spMakeSteps K cl) := ⟨_, _, ok_make_steps F23 T c_turned c_signs_count c_greatest_lacking c_Steps, PySem.W.mg_of X G a23, k23, b23⟩
  have c_steps : DefC l.prog w K mg base 20 "steps" ["table"] (spTellS K cl Pt) := ⟨_, _, (ok_steps F24 T R c_check_table c_find_cross c_make_steps).mono (by decide), PySem.W.mg_of X G a24, k24, b24⟩
  have c_law_table : DefC l.prog w K mg base 1 "_law_table" ["_law_script"] (spTable K) := ⟨_, _, ok__law_table F25 T, PySem.W.mg_of X G a25, k25, b25⟩
  have c_law_turned : DefC l.prog w K mg base 1 "_law_turned" ["_law_table_here"] (spTurned K) := ⟨_, _, ok__law_turned F26 T, PySem.W.mg_of X G a26, k26, b26⟩
  have c_law_numbers : DefC l.prog w K mg base 1 "_law_numbers" ["_law_found", "_law_many"] (spNumbers K) := ⟨_, _, ok__law_numbers F27 T, PySem.W.mg_of X G a27, k27, b27⟩
  have c_law_has : DefC l.prog w K mg base 1 "_law_has" ["_law_table_here", "_law_row", "_law_column"] (spSign K true) := ⟨_, _, ok__law_has F28 T, PySem.W.mg_of X G a28, k28, b28⟩
  have c_law_hasnt : DefC l.prog w K mg base 1 "_law_hasnt" ["_law_table_here", "_law_row", "_law_column"] (spSign K false) := ⟨_, _, ok__law_hasnt F29 T, PySem.W.mg_of X G a29, k29, b29⟩
  have c_law_cross : DefC l.prog w K mg base 2 "_law_cross" ["_law_table_here", "_law_one", "_law_first", "_law_other", "_law_second"] (spCross K) := ⟨_, _, ok__law_cross F30 T c_law_has c_law_hasnt, PySem.W.mg_of X G a30, k30, b30⟩
  have c_law_steps : DefC l.prog w K mg base 1 "_law_steps" ["_law_table_here", "_law_rows", "_law_columns"] (spSteps K) := ⟨_, _, ok__law_steps F31 T, PySem.W.mg_of X G a31, k31, b31⟩
  have c_law_due : DefC l.prog w K mg base 3 "_law_due" ["_law_table_here", "_law_found"] (spDue K cl) := ⟨_, _, ok__law_due F32 T Gk (Ats.of N) c_law_cross c_law_steps, PySem.W.mg_of X G a32, k32, b32⟩
  have c_law_right : DefC l.prog w K mg base 21 "_law_right" ["_law_table_here"] (spRight K Pt) := ⟨_, _, ok__law_right F33 T Gk (Ats.of N) c_steps c_shows_Steps c_shows_Cross c_law_turned c_law_numbers c_law_due, PySem.W.mg_of X G a33, k33, b33⟩
  exact ok_law F34 T c_law_turned c_law_table c_law_right
theorem walk {l : PySem.W.OpenLaw} {q : Program} {loose : List Str} {XP : (Str → Option Value) → Heap → Prop} {YP : World → Heap → Prop} {d : DefRec} {K : Params → PySem.W.Frag} (hn : l.most = some 63) (hdf : d.params.defaults = [])
    (hY : ∀ (w : World) (h : Heap), YP w h → (K w.params).In h) (hrec : ∃ dl, (recsOf q).find? (fun e => e.name == Str.ofString "find_cross") = some dl)
    (F : ∀ (w : World) (mg : Str → Option Value) (fa : Addr) (h : Heap), (K w.params).In h → h.Ns mainGlobals mg → mg d.name = some (.ref fa) →
      ∃ (fd : FuncData) (c Pt : Addr), PySem.W.tabIn (K w.params) "find_cross" = some (c, Pt) ∧ (K w.params).lookup Pt = none ∧ (∀ (s : Shared) (u : Value), BindsTo s fd ⟨[u], []⟩ [("_law_script", u)]) ∧
        ∀ base : Heap, (K w.params).In base → base.Ns mainGlobals mg → PySem.W.CodeHd base c Pt → base.BuiltinsAt mg Pt → FnOk l.prog w (K w.params) mg base CX0 22 fa fd ["_law_script"] (spLaw (K w.params) Pt)) :
    PySem.W.WalkO q loose XP YP l.row.toRowW d [] (fun f vs => PySem.call f vs) :=
  let ⟨_, hrec⟩ := hrec; L2.walk_ofT (n := 63) (k := 22) (x := "_law_script") (y := "find_cross") (lp := lpCross) (qn := "find_cross.<locals>.<lambda>") (sp := fun w Pt => spLaw (K w.params) Pt) hn (by decide) hdf ⟨rfl, by decide, by decide⟩ hY hrec F fun _ _ a Pt ns hl hS hP => ⟨a, ns, rfl, hS, hl, hP, fun _ => rfl⟩
end Wa
open PySem PySem.W PyProof.Rows
set_option maxRecDepth 100000 in
set_option maxHeartbeats 0 in
theorem PySem.Challenge.cw_wholeahead_k02_whole_steps_holds : PySem.Challenge.rw_wholeahead_k02_whole_steps.Holds := by
  w_on; o_law
  refine PySem.W.holds_open (q := Wa.view) (loose := []) (XP := PySem.W.XL Wa.view []) (YP := PySem.W.Hook.says (PySem.W.kmHook Wa.early.heap_1 Wa.ads Wa.ads_is [438])) Wa.left (PySem.W.Hook.of (PySem.W.kmHook Wa.early.heap_1 Wa.ads Wa.ads_is [438])) (PySem.W.Hook.keeps (PySem.W.kmHook Wa.early.heap_1 Wa.ads Wa.ads_is [438])) (fun s e => PySem.W.xl_of s (Bool.and_eq_true_iff.mp e).1) PySem.W.XL.keeps (by rfl) (by rfl) (by rfl) (fun s e => PySem.W.recFacts_of (Bool.and_eq_true_iff.mp e).2) (by rfl) (by first | assumption | decide +kernel) (by decide +kernel) ⟨rfl, rfl, rfl, rfl, rfl, by decide +kernel⟩ ?_ ?_
  · w_witness2
  k_fill
  refine Wa.walk (l := PySem.Challenge.rw_wholeahead_k02_whole_steps) rfl rfl (fun w h Y => PySem.W.km_in_of Y) ?hrec ?F
  case hrec => exact ⟨_, rfl⟩
  case F =>
    intro w mg fa h KX G hmg
    refine' Wa.all_mk KX G hmg ?gAnswer ?gBeside ?gCross ?gLine ?gMutual ?gNeither ?gRanks ?gRound ?gSelf ?gSteps ?gStretches ?pgAnswer ?hdAnswer ?poAnswer ?saAnswer ?haAnswer ?hmAnswer ?tbAnswer ?tlAnswer ?pgBeside ?hdBeside ?poBeside ?saBeside ?haBeside ?hmBeside ?tbBeside ?tlBeside ?pgCross ?hdCross ?poCross ?saCross ?haCross ?hmCross ?tbCross ?tlCross ?pgLine ?hdLine ?poLine ?saLine ?haLine ?hmLine ?tbLine ?tlLine ?pgMutual ?hdMutual ?poMutual ?saMutual ?haMutual ?hmMutual ?tbMutual ?tlMutual ?pgNeither ?hdNeither ?poNeither ?saNeither ?haNeither ?hmNeither ?tbNeither ?tlNeither ?pgRanks ?hdRanks ?poRanks ?saRanks ?haRanks ?hmRanks ?tbRanks ?tlRanks ?pgRound ?hdRound ?poRound ?saRound ?haRound ?hmRound ?tbRound ?tlRound ?pgSelf ?hdSelf ?poSelf ?saSelf ?haSelf ?hmSelf ?tbSelf ?tlSelf ?pgSteps ?hdSteps ?poSteps ?saSteps ?haSteps ?hmSteps ?tbSteps ?tlSteps ?pgStretches ?hdStretches ?poStretches ?saStretches ?haStretches ?hmStretches ?tbStretches ?tlStretches ?hn ?htk ?ones ?nBeside_one ?nBeside_other ?nBeside_third ?nCross_one ?nCross_first ?nCross_other ?nCross_second ?nLine_order ?nMutual_one ?nMutual_other ?nNeither_one ?nNeither_other ?nRanks_ranks ?nRound_one ?nRound_other ?nRound_third ?nSelf_one ?nSteps_rows ?nSteps_columns ?nStretches_begins ?nStretches_ends ?nStretches_unlike ?a1 ?l1 ?c1 ?k1 ?a2 ?l2 ?c2 ?k2 ?a3 ?l3 ?c3 ?k3 ?a4 ?l4 ?c4 ?k4 ?a5 ?l5 ?c5 ?k5 ?a6 ?l6 ?c6 ?k6 ?a7 ?l7 ?c7 ?k7 ?a8 ?l8 ?c8 ?k8 ?a9 ?l9 ?c9 ?k9 ?a10 ?l10 ?c10 ?k10 ?a11 ?l11 ?c11 ?k11 ?a12 ?l12 ?c12 ?k12 ?a13 ?l13 ?c13 ?k13 ?a14 ?l14 ?c14 ?k14 ?a15 ?i15 ?mk15 ?kc15 ?l15 ?c15 ?k15 ?a16 ?i16 ?mk16 ?kc16 ?l16 ?c16 ?k16 ?a17 ?i17 ?l17 ?c17 ?k17 ?a18 ?i18 ?l18 ?c18 ?k18 ?a19 ?l19 ?c19 ?k19 ?a20 ?l20 ?c20 ?k20 ?a21 ?l21 ?c21 ?k21 ?a22 ?l22 ?c22 ?k22 ?ecd ?lcT ?pcT ?hKt ?a23 ?l23 ?c23 ?k23 ?a24 ?l24 ?c24 ?k24 ?a25 ?l25 ?c25 ?k25 ?a26 ?l26 ?c26 ?k26 ?a27 ?l27 ?c27 ?k27 ?a28 ?l28 ?c28 ?k28 ?a29 ?l29 ?c29 ?k29 ?a30 ?l30 ?c30 ?k30 ?a31 ?l31 ?c31 ?k31 ?a32 ?l32 ?c32 ?k32 ?a33 ?l33 ?c33 ?k33 ?a34 ?l34 ?c34 ?k34 ?z_max ?z_len ?z_sum ?z_all ?z_any ?z_sorted ?z_isinstance ?z_list ?z_str ?z_int ?z_bool ?z_set ?z_range ?z_enumerate ?z_zip
    (case gAnswer => k_is)
    (case gBeside => k_is)
    (case gCross => k_is)
    (case gLine => k_is)
    (case gMutual => k_is)
    (case gNeither => k_is)
    (case gRanks => k_is)
    (case gRound => k_is)
    (case gSelf => k_is)
    (case gSteps => k_is)
    (case gStretches => k_is)
    (case pgAnswer => k_is)
    (case hdAnswer => k_is)
    (case poAnswer => k_is)
    (case saAnswer => k_is)
    (case haAnswer => k_is)
    (case hmAnswer => k_is)
    (case tbAnswer => k_is)
    (case tlAnswer => k_is)
    (case pgBeside => k_is)
    (case hdBeside => k_is)
    (case poBeside => k_is)
    (case saBeside => k_is)
    (case haBeside => k_is)
    (case hmBeside => k_is)
    (case tbBeside => k_is)
    (case tlBeside => k_is)
    (case pgCross => k_is)
    (case hdCross => k_is)
    (case poCross => k_is)
    (case saCross => k_is)
    (case haCross => k_is)
    (case hmCross => k_is)
    (case tbCross => k_is)
    (case tlCross => k_is)
    (case pgLine => k_is)
    (case hdLine => k_is)
    (case poLine => k_is)
    (case saLine => k_is)
    (case haLine => k_is)
    (case hmLine => k_is)
    (case tbLine => k_is)
    (case tlLine => k_is)
    (case pgMutual => k_is)
    (case hdMutual => k_is)
    (case poMutual => k_is)
    (case saMutual => k_is)
    (case haMutual => k_is)
    (case hmMutual => k_is)
    (case tbMutual => k_is)
    (case tlMutual => k_is)
    (case pgNeither => k_is)
    (case hdNeither => k_is)
    (case poNeither => k_is)
    (case saNeither => k_is)
    (case haNeither => k_is)
    (case hmNeither => k_is)
    (case tbNeither => k_is)
    (case tlNeither => k_is)
    (case pgRanks => k_is)
    (case hdRanks => k_is)
    (case poRanks => k_is)
    (case saRanks => k_is)
    (case haRanks => k_is)
    (case hmRanks => k_is)
    (case tbRanks => k_is)
    (case tlRanks => k_is)
    (case pgRound => k_is)
    (case hdRound => k_is)
    (case poRound => k_is)
    (case saRound => k_is)
    (case haRound => k_is)
    (case hmRound => k_is)
    (case tbRound => k_is)
    (case tlRound => k_is)
    (case pgSelf => k_is)
    (case hdSelf => k_is)
    (case poSelf => k_is)
    (case saSelf => k_is)
    (case haSelf => k_is)
    (case hmSelf => k_is)
    (case tbSelf => k_is)
    (case tlSelf => k_is)
    (case pgSteps => k_is)
    (case hdSteps => k_is)
    (case poSteps => k_is)
    (case saSteps => k_is)
    (case haSteps => k_is)
    (case hmSteps => k_is)
    (case tbSteps => k_is)
    (case tlSteps => k_is)
    (case pgStretches => k_is)
    (case hdStretches => k_is)
    (case poStretches => k_is)
    (case saStretches => k_is)
    (case haStretches => k_is)
    (case hmStretches => k_is)
    (case tbStretches => k_is)
    (case tlStretches => k_is)
    (case hn => k_is)
    (case htk => k_is)
    (case ones => kernel_rfl)
    (case nBeside_one => k_is)
    (case nBeside_other => k_is)
    (case nBeside_third => k_is)
    (case nCross_one => k_is)
    (case nCross_first => k_is)
    (case nCross_other => k_is)
    (case nCross_second => k_is)
    (case nLine_order => k_is)
    (case nMutual_one => k_is)
    (case nMutual_other => k_is)
    (case nNeither_one => k_is)
    (case nNeither_other => k_is)
    (case nRanks_ranks => k_is)
    (case nRound_one => k_is)
    (case nRound_other => k_is)
    (case nRound_third => k_is)
    (case nSelf_one => k_is)
    (case nSteps_rows => k_is)
    (case nSteps_columns => k_is)
    (case nStretches_begins => k_is)
    (case nStretches_ends => k_is)
    (case nStretches_unlike => k_is)
    (case a1 => k_is)
    (case l1 => k_is)
    (case c1 => k_is)
    (case k1 => k_is)
    (case a2 => k_is)
    (case l2 => k_is)
    (case c2 => k_is)
    (case k2 => k_is)
    (case a3 => k_is)
    (case l3 => k_is)
    (case c3 => k_is)
    (case k3 => k_is)
    (case a4 => k_is)
    (case l4 => k_is)
    (case c4 => k_is)
    (case k4 => k_is)
    (case a5 => k_is)
    (case l5 => k_is)
    (case c5 => k_is)
    (case k5 => k_is)
    (case a6 => k_is)
    (case l6 => k_is)
    (case c6 => k_is)
    (case k6 => k_is)
    (case a7 => k_is)
    (case l7 => k_is)
    (case c7 => k_is)
    (case k7 => k_is)
    (case a8 => k_is)
    (case l8 => k_is)
    (case c8 => k_is)
    (case k8 => k_is)
    (case a9 => k_is)
    (case l9 => k_is)
    (case c9 => k_is)
    (case k9 => k_is)
    (case a10 => k_is)
    (case l10 => k_is)
    (case c10 => k_is)
    (case k10 => k_is)
    (case a11 => k_is)
    (case l11 => k_is)
    (case c11 => k_is)
    (case k11 => k_is)
    (case a12 => k_is)
    (case l12 => k_is)
    (case c12 => k_is)
    (case k12 => k_is)
    (case a13 => k_is)
    (case l13 => k_is)
    (case c13 => k_is)
    (case k13 => k_is)
    (case a14 => k_is)
    (case l14 => k_is)
    (case c14 => k_is)
    (case k14 => k_is)
    (case a15 => k_is)
    (case i15 => k_is)
    (case mk15 => k_is)
    (case kc15 => k_is)
    (case l15 => k_is)
    (case c15 => k_is)
    (case k15 => k_is)
    (case a16 => k_is)
    (case i16 => k_is)
    (case mk16 => k_is)
    (case kc16 => k_is)
    (case l16 => k_is)
    (case c16 => k_is)
    (case k16 => k_is)
    (case a17 => k_is)
    (case i17 => k_is)
    (case l17 => k_is)
    (case c17 => k_is)
    (case k17 => k_is)
    (case a18 => k_is)
    (case i18 => k_is)
    (case l18 => k_is)
    (case c18 => k_is)
    (case k18 => k_is)
    (case a19 => k_is)
    (case l19 => k_is)
    (case c19 => k_is)
    (case k19 => k_is)
    (case a20 => k_is)
    (case l20 => k_is)
    (case c20 => k_is)
    (case k20 => k_is)
    (case a21 => k_is)
    (case l21 => k_is)
    (case c21 => k_is)
    (case k21 => k_is)
    (case a22 => k_is)
    (case l22 => k_is)
    (case c22 => k_is)
    (case k22 => k_is)
    (case ecd => rfl)
    (case lcT => k_is)
    (case pcT => rfl)
    (case hKt => kernel_rfl)
    (case a23 => k_is)
    (case l23 => k_is)
    (case c23 => k_is)
    (case k23 => k_is)
    (case a24 => k_is)
    (case l24 => k_is)
    (case c24 => k_is)
    (case k24 => k_is)
    (case a25 => k_is)
    (case l25 => k_is)
    (case c25 => k_is)
    (case k25 => k_is)
    (case a26 => k_is)
    (case l26 => k_is)
    (case c26 => k_is)
    (case k26 => k_is)
    (case a27 => k_is)
    (case l27 => k_is)
    (case c27 => k_is)
    (case k27 => k_is)
    (case a28 => k_is)
    (case l28 => k_is)
    (case c28 => k_is)
    (case k28 => k_is)
    (case a29 => k_is)
    (case l29 => k_is)
    (case c29 => k_is)
    (case k29 => k_is)
    (case a30 => k_is)
    (case l30 => k_is)
    (case c30 => k_is)
    (case k30 => k_is)
    (case a31 => k_is)
    (case l31 => k_is)
    (case c31 => k_is)
    (case k31 => k_is)
    (case a32 => k_is)
    (case l32 => k_is)
    (case c32 => k_is)
    (case k32 => k_is)
    (case a33 => k_is)
    (case l33 => k_is)
    (case c33 => k_is)
    (case k33 => k_is)
    (case a34 => k_is)
    (case l34 => k_is)
    (case c34 => k_is)
    (case k34 => k_is)
    (case z_max => k_is)
    (case z_len => k_is)
    (case z_sum => k_is)
    (case z_all => k_is)
    (case z_any => k_is)
    (case z_sorted => k_is)
    (case z_isinstance => k_is)
    (case z_list => k_is)
    (case z_str => k_is)
    (case z_int => k_is)
    (case z_bool => k_is)
    (case z_set => k_is)
    (case z_range => k_is)
    (case z_enumerate => k_is)
    (case z_zip => k_is)
#print axioms PySem.Challenge.cw_wholeahead_k02_whole_steps_holds

