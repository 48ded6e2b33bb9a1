import PyProof.Rows.All
import Wide.All
import OpenK.AllK
import Wide.FinOn
import PyProof.EqAt
import PyProof.EqKinds
import PyProof.TupleCall
import HandS.Base
import HandS.Call
import HandS.List
import HandS.Comp
import HandS.Ends
import HandS.Words
import HandS.Walk
import HandS.Dict
import HandS.TupAny
import HandS.Style
import HandS.Exc
import HandS.WordsExc
import PyProof.ReprRoads
import HandS.TryMany
import HandS.ExcField
import HandS.ExcInit
import HandS.MakeKwOnly
import HandS.IsInst
import HandS.Text
import HandS.Iter
import HandS.Zip
import HandS.More
import KE.GoesEnum
import KE.GoesZip
import KE.GoesMore
import PyProof.ListStr
import HandS.Defaults
import HandS.Strs
import PyProof.Rows.RegFStrParts
import HandS.Small
import PyProof.P3Eq
import PySem.Challenge.RW_partedlanes_k20_sources_made_and_refused
import PyProof.NeData
import HandS.Star
import HandS.SetFor
import HandS.DictEq
import HandS.DeepEq
import HandS.DictComp
import HandS.DictTup
import HandS.Conv
import HandS.IterVal
import HandS.HotCalls
import HandS.SuiteRaise
import KE.KTryMore
import PyProof.ReprNest
import KE.KOpsOwn
import PyProof.ListMulRight
import PyProof.FactsAll.bool
import PyProof.MakeMany
import PyProof.RaisesMany
import HandS.ClsMeth
import HandS.TupMul
import PyProof.NeKinds
import KE.DatumOrd
import HandS.SortKw
import HandS.Sort
import HandS.FStr
set_option Elab.async false
set_option linter.all false
theorem PySem.W.Fast.tw9592020410419226789 : True := trivial
theorem PySem.W.Fast.tw6212261883784344431 : True := trivial
theorem PySem.W.Fast.tw15709247499365744483 : True := trivial
theorem PySem.W.Fast.tw5496607932832366846 : True := trivial
theorem PySem.W.Fast.tw6193803274284665578 : True := trivial
theorem PySem.W.Fast.tw7027082622426112928 : True := trivial
theorem PySem.W.Fast.tw815002682200640875 : True := trivial
theorem PySem.W.Fast.tw13266965043508954830 : True := trivial
theorem PySem.W.Fast.tw6863866772780838471 : True := trivial
section
open PySem PySem.W PyProof.Rows
set_option maxRecDepth 100000 in
set_option maxHeartbeats 0 in
open_top k_top_head for PySem.Challenge.rw_partedlanes_k20_sources_made_and_refused
end
set_option Elab.async false
set_option linter.all false
set_option maxRecDepth 100000
set_option maxHeartbeats 4000000
namespace XX
open PySem PySem.Spec PyProof.Rows L2

/-- a def that stands under its name: its promise sp, kept at level k -/
structure FnC (P : Program) (w : World) (K : PySem.W.Frag) (mg : Str → Option Value) (base : Heap) (CX : CXT) (k : Nat) (x : Str) (ps : List Str) (sp : Sp) : Prop where
  ex : ∃ (f : Addr) (fd : FuncData), FnOk P w K mg base CX k f fd ps sp ∧ mg x = some (.ref f) ∧ PySem.W.keepIn K (.ref f) = true ∧ Binds K fd ps []
/-- a def of the text under its name -/
structure Def (K : PySem.W.Frag) (mg : Str → Option Value) (x : Str) (st : Stmt) (ps : List Str) : Prop where
  ex : ∃ (f : Addr) (fd : FuncData), Fun K x x st f fd ∧ mg x = some (.ref f) ∧ Binds K fd ps []
section
variable {P : Program} {w : World} {K : PySem.W.Frag} {mg : Str → Option Value} {base : Heap}
theorem Def.ok {x : Str} {st : Stmt} {N ps : List Str} {k : Nat} {sp : Sp} (D : Def K mg x st ps) (S : FnScope N ps (defScope st)) (len : ∀ vs H Q E, sp vs H Q E → vs.length = ps.length)
    (hbody : ∀ (f : Addr) (cdv : Value) (A : Around) (outer : List Env) (s : Shared) (H : Hp) (vs : List V) (Q : VK) (E : XK), Room k (A.deeper (envOfC x (defScope st) s.heap.objs.size f cdv)) → sp vs H Q E →
      ∃ t, PSs (cxOf CX0 P w K mg base N x (defScope st) f cdv A outer s H E).nox (defBody st) t ∧ t { nx := fun _ H' => Q .non H', rt := Q } (start N vs) H) : FnC P w K mg base CX0 (k + 1) x ps sp := by
  obtain ⟨f, fd, F, hm, hb⟩ := D.ex
  exact ⟨f, fd, F.ok S len (hbody f), hm, F.kp, hb⟩
theorem FnC.mono {CX : CXT} {j k : Nat} {x : Str} {ps : List Str} {sp : Sp} (c : FnC P w K mg base CX j x ps sp) (h : j ≤ k) : FnC P w K mg base CX k x ps sp := by
  obtain ⟨f, fd, F, r⟩ := c.ex
  exact ⟨f, fd, F.mono h, r⟩
end
section
variable {X : Cx} {k : Nat} {x : Str} {ps : List Str} {sp : Sp} {p pos : Pos} {e : Expr} {es : List Expr} {t : TA}
theorem pe_c (c : FnC X.prog X.w X.K X.mg X.base CX0 k x ps sp) (hr : Room k X.A) (hg : Gl X x) (ha : PA X (e :: es) t) (hdb : (x == ("__debug__" : Str)) = false := by decide)
    (he : starEach (e :: es) X.env = (false, eval e X.env) :: starEach es X.env := by rfl) (hpl : (backTo pos (starEach es X.env)).any (·.1) = false := by rfl) :
    PE X (.Call (.Name x p) (e :: es) [] pos) (tCall sp [] E0 t) := by
  obtain ⟨f, fd, F, hm, hk, hb⟩ := c.ex
  exact pe_call F hr hg hm hk hb .nil pass0 ha hdb he hpl
end
/-- how a def under its name is had from what the head tells -/
theorem def_mk {K : PySem.W.Frag} {h : Heap} {mg : Str → Option Value} {f : Addr} {x : Str} {st : Stmt} {ps : List Str} {oc : Value} {od an : Option Addr} {osl : Array (Option Value)} {kV dc pm cd ct : Value} (X : K.In h) (G : h.Ns mainGlobals mg)
    (a : PySem.W.nsIn K mainGlobals x = some (some (.ref f))) (l : K.lookup f = some ⟨oc, od, .func (PySem.W.fnOf x x (defArgs st) (defBody st) (defScope st) .none kV dc pm an cd ct), osl⟩) (c : PySem.W.codeIn K cd x = true) (kp : PySem.W.keepIn K (.ref f) = true)
    (h : ∀ (kV doc pm : Value) (an : Option Addr) (cdv ct : Value) (us : List Value), us.length = ps.length → bindArgs (PySem.W.fnOf x x (defArgs st) (defBody st) (defScope st) .none kV doc pm an cdv ct) ⟨us, []⟩ = pure (ps.zip us)) : Def K mg x st ps :=
  ⟨f, _, fun_mk l c kp, PySem.W.mg_of X G a, (fun_mk l c kp).binds h⟩
end XX

set_option maxRecDepth 100000
set_option maxHeartbeats 4000000
namespace XX
open PySem PySem.Spec PyProof.Rows L2
/-- a for over J, behind the reading of what it walks -/
def LoopW (J : It) (g : TG) (tb : TS) (D : Ends) (σ : L2.St) (H1 : Hp) : Prop := tFor (fun _ H R => R J H) g tb D σ H1
theorem tFor_eq (wi : TI) (g : TG) (tb : TS) (D : Ends) (σ : L2.St) (H : Hp) : tFor wi g tb D σ H = wi σ H fun J H1 => LoopW J g tb D σ H1 := rfl
theorem loop_it {J : It} {n : Nat} {G : Hp → Prop} {Y : Nat → Hp → V → Hp → Prop} (w : Walk J n G Y) {g : TG} {tb : TS} {D : Ends} {σ : L2.St} {H : Hp} (Pv : Nat → L2.St → Hp → Prop) (h0 : Pv 0 σ H) (hG : ∀ i σ H, i ≤ n → Pv i σ H → G H)
    (hs : ∀ i x σ H H', i < n → Pv i σ H → Y i H x H' → g x σ H' fun σ2 H2 => tb { nx := Pv (i + 1), rt := D.rt, bk := D.nx, ct := Pv (i + 1) } σ2 H2) (hd : ∀ σ H, Pv n σ H → D.nx σ H) : LoopW J g tb D σ H := for_it w Pv h0 hG hs hd
/-- a comprehension over J -/
def LcW (J : It) (g : TG) (tt : TT) (te : TE) (vs : List Nat) (σ : L2.St) (H1 : Hp) (Q : VK) : Prop := tLc (fun _ H R => R J H) g tt te vs σ H1 Q
theorem tLc_eq (wi : TI) (g : TG) (tt : TT) (te : TE) (vs : List Nat) (σ : L2.St) (H : Hp) (Q : VK) : tLc wi g tt te vs σ H Q = wi σ H fun J H1 => LcW J g tt te vs σ H1 Q := rfl
/-- what a turn of a comprehension gives -/
def LcEnd (te : TE) (D : Addr) (Nx : Hp → Prop) (σ : L2.St) (b : Bool) (H : Hp) : Prop := if b = true then te σ H (fun y H' => ∃ acc, H' D = some (HO.lst acc) ∧ acc.length < sizeLine ∧ Nx (upd H' D (HO.lst (acc ++ [y])))) else Nx H
theorem lcw_it {J : It} {n : Nat} {G : Hp → Prop} {Y : Nat → Hp → V → Hp → Prop} (w : Walk J n G Y) {g : TG} {tt : TT} {te : TE} {vs : List Nat} {σ : L2.St} {H1 : Hp} {Q : VK} (Pv : Addr → Nat → Hp → Prop) (h0 : ∀ D, H1 D = none → Pv D 0 (upd H1 D (HO.lst []))) (hG : ∀ D i H, i ≤ n → Pv D i H → G H)
    (hs : ∀ D i x H H', H1 D = none → i < n → Pv D i H → Y i H x H' → g x (wipe σ vs) H' fun σ2 H2 => wipe σ2 vs = wipe σ vs ∧ tt σ2 H2 fun b H3 => LcEnd te D (Pv D (i + 1)) σ2 b H3) (hd : ∀ D H, H1 D = none → Pv D n H → Q (.ref D) H) : LcW J g tt te vs σ H1 Q :=
  fun D hD => lc_it w (Pv D) (h0 D hD) (hG D) (fun i x H H' hi hp hy => hs D i x H H' hD hi hp hy) (fun H hp => hd D H hD hp)
section
variable {CX : CXT} {P : Program} {w : World} {K : PySem.W.Frag} {mg : Str → Option Value} {base : Heap} {N : List Str} {qual : Str} {scope : Scope} {f : Addr} {cd : Value} {A : Around} {outer : List Env} {s : Shared} {H : Hp} {E : XK}
theorem cxOf_K : (cxOf CX P w K mg base N qual scope f cd A outer s H E).K = K := rfl
theorem cxOf_noxK : (cxOf CX P w K mg base N qual scope f cd A outer s H E).nox.K = K := rfl
end
theorem bool_ite_true {α : Sort _} (a b : α) : (if true = true then a else b) = a := if_pos rfl
theorem bool_ite_false {α : Sort _} (a b : α) : (if false = true then a else b) = b := if_neg (by decide)
theorem dec_ite {α : Sort _} {c : Prop} [Decidable c] (a b : α) : (if decide c = true then a else b) = if c then a else b := by
  by_cases h : c <;> simp [h]
theorem ndec_ite {α : Sort _} {c : Prop} [Decidable c] (a b : α) : (if (!decide c) = true then a else b) = if c then b else a := by
  by_cases h : c <;> simp [h]
end XX

set_option maxRecDepth 100000
set_option maxHeartbeats 4000000
namespace XX
open PySem PySem.Spec PyProof.Rows L2
/-! ### a text times a number -/
def strRep (z : Str) (k : Int) : Str := if k < 1 then Str.empty else if (k == 1 || z.length == 0) = true then z else ⟨(List.replicate k.toNat z.cps).foldl (· ++ ·) #[]⟩
theorem repl_size (z : Array Nat) : ∀ (k : Nat) (a : Array Nat), ((List.replicate k z).foldl (· ++ ·) a).size = a.size + k * z.size
  | 0, a => by simp
  | k + 1, a => by
    rw [List.replicate_succ, List.foldl_cons, repl_size z k, Array.size_append, Nat.succ_mul]
    omega
theorem strRep_length (z : Str) (k : Int) : (strRep z k).length = k.toNat * z.length := by
  unfold strRep
  by_cases h : k < 1
  · rw [if_pos h]
    have e : k.toNat = 0 := by omega
    rw [e, Nat.zero_mul]
    rfl
  · rw [if_neg h]
    by_cases c : (k == 1 || z.length == 0) = true
    · rw [if_pos c]
      rw [Bool.or_eq_true] at c
      rcases c with c | c
      · have e : k = 1 := eq_of_beq c
        rw [e]
        simp
      · have e : z.length = 0 := eq_of_beq c
        rw [e, Nat.mul_zero]
    · rw [if_neg c]
      show (List.foldl (· ++ ·) #[] (List.replicate k.toNat z.cps)).size = _
      rw [repl_size]
      show 0 + k.toNat * z.cps.size = k.toNat * z.cps.size
      omega
def rMulS : R2 := fun x y H Q => ∃ (z : Str) (k : Int), x = .str z ∧ y = .int k ∧ 0 ≤ k ∧ k ≤ 100000 ∧ z.length ≤ 100 ∧ Q (.str (strRep z k)) H
theorem op_mulS {X : Cx} : OpR X (binaryOp .Mult) rMulS := by
  intro pins s σ H x y v u Q I rx ry h
  obtain ⟨z, k, rfl, rfl, h0, h1, h2, q⟩ := h
  obtain ⟨t1, rfl⟩ := (show ∃ t, v = Value.str z t from rx)
  obtain ⟨t2, rfl⟩ := (show ∃ t, u = Value.int k t from ry)
  have hmul : z.length * k.toNat ≤ 10000000 := by
    have : z.length * k.toNat ≤ 100 * 100000 := Nat.mul_le_mul h2 (by omega)
    omega
  have hlen : Builtin.Str.tooLong (z.length * k.toNat) = false := by
    unfold Builtin.Str.tooLong
    have := sizeLine_eq
    simp
    omega
  refine PySem.P.mul_str ?_ (fun hk1 hc => ?_) (fun _ _ => hlen) ?_
  · have a1 : ¬ k < -(2 ^ 63 : Int) := by omega
    have a2 : ¬ k ≥ 2 ^ 63 := by omega
    rw [decide_eq_false a1, decide_eq_false a2]
    rfl
  · have hk0 : 0 < k := by omega
    have e : (2 ^ 63 - 1 : Int) / 100000 ≤ (2 ^ 63 - 1) / k := by
      apply Int.le_ediv_of_mul_le hk0
      have : (2 ^ 63 - 1 : Int) / 100000 * k ≤ (2 ^ 63 - 1 : Int) / 100000 * 100000 := Int.mul_le_mul_of_nonneg_left h1 (by decide)
      have e2 : (2 ^ 63 - 1 : Int) / 100000 * 100000 ≤ 2 ^ 63 - 1 := by decide
      omega
    have e3 : (100 : Int) ≤ (2 ^ 63 - 1 : Int) / 100000 := by decide
    omega
  · have hq := q
    unfold strRep at hq
    by_cases c1 : k < 1
    · rw [if_pos c1] at hq ⊢
      exact ⟨by decide, .str Str.empty, H, I.tok _, ⟨_, rfl⟩, hq⟩
    · rw [if_neg c1] at hq ⊢
      by_cases c2 : (k == 1 || z.length == 0) = true
      · rw [if_pos c2] at hq ⊢
        exact ⟨.str z, H, I, ⟨_, rfl⟩, hq⟩
      · rw [if_neg c2] at hq ⊢
        refine ⟨?_, .str _, H, I.tok _, ⟨_, rfl⟩, hq⟩
        show Str.length ⟨List.foldl (· ++ ·) #[] (List.replicate k.toNat z.cps)⟩ ≤ _
        have e : Str.length ⟨List.foldl (· ++ ·) #[] (List.replicate k.toNat z.cps)⟩ = k.toNat * z.length := by
          show (List.foldl (· ++ ·) #[] (List.replicate k.toNat z.cps)).size = _
          rw [repl_size]
          show 0 + k.toNat * z.cps.size = k.toNat * z.cps.size
          omega
        rw [e, Nat.mul_comm, sizeLine_eq]
        omega

/-! ### a tuple backwards -/
theorem fm_congr {α β : Type} {f g : α → Option β} : ∀ {l : List α}, (∀ m ∈ l, f m = g m) → l.filterMap f = l.filterMap g
  | [], _ => rfl
  | a :: l, h => by
    have e := fm_congr (l := l) fun m hm => h m (List.mem_cons_of_mem _ hm)
    rw [List.filterMap_cons, List.filterMap_cons, h a (List.mem_cons_self ..), e]
theorem rev_pick (xs : Array Value) : ((List.range xs.size).filterMap fun (m : Nat) => xs[(((xs.size : Int) - 1) + (m : Int) * (-1)).toNat]?) = xs.toList.reverse := by
  have e : (List.range xs.size).filterMap (fun (m : Nat) => xs[(((xs.size : Int) - 1) + (m : Int) * (-1)).toNat]?) = ((List.range xs.size).map fun k => xs.size - 1 - k).filterMap (xs[·]?) := by
    rw [List.filterMap_map]
    refine fm_congr fun m hm => ?_
    have := List.mem_range.mp hm
    show xs[(((xs.size : Int) - 1) + (m : Int) * (-1)).toNat]? = xs[xs.size - 1 - m]?
    have e2 : (((xs.size : Int) - 1) + (m : Int) * (-1)).toNat = xs.size - 1 - m := by omega
    rw [e2]
  rw [e, PySem.W.krv_range, List.filterMap_reverse, PySem.W.krv_all]
section
variable {prog : Program} {w : World} {A : Around} {E : Value → Shared → Prop} {s : Shared}
open HT in
theorem getItem_tuple_rev {t sl : Addr} {items : Array Value} {vs : Value} {Q : Value → Shared → Prop} (ht : IsTup s.heap t items) (hs : s.heap.IsSliceOf sl .none .none vs) (ps : IsPart vs (some (-1)))
    (h : Q (.ref s.heap.objs.size) { s with heap := s.heap.push { cls := .type "tuple", data := .seq items.toList.reverse.toArray } }) (hsz : items.size ≤ sizeLine) : wpAny (model prog w) A (getItem (.ref t) (.ref sl)) Q E s := by
  have htake : sizeOk (.seq items.toList.reverse.toArray) := by
    show items.toList.reverse.toArray.size ≤ sizeLine
    rw [List.size_toArray, List.length_reverse, Array.length_toList]
    exact hsz
  obtain ⟨os, hos, hcs, hds⟩ := id hs
  have hTs : s.TypeIs (.ref sl) "slice" := ⟨os, hos, hcs⟩
  unfold getItem
  try with_reducible refine wpAny_holding ?_
  first | refine wpAny_bind (wpAny_pure ?_) | skip
  refine wpAny_bind (wpAny_sequenceKey ht.typeIs (by decide) ?_)
  refine wpAny_bind (wpAny_callSpecial?_slot (name := Str.ofString "__getitem__") ht.typeIs PyProof.Rows.slot_tuple_getitem
    (wpAny_call_entry PyProof.Rows.slot_tuple_getitem ht.typeIs entry_tuple_getitem ?_ (args_tuple_getitem _ _)))
  show wpAny _ _ (Builtin.Tuple.tupleItemsOf (.ref t) >>= _) _ _ s
  refine wpAny_bind (tupleItemsOf_ ht ?_)
  refine wpAny_bind (wpAny_typeOf hTs ?_)
  rw [if_pos (by decide)]
  have happ : ∀ {A : Around} {E : Value → Shared → Prop} {R : Int × Int × Nat → Shared → Prop}, R (((items.size : Nat) : Int) - 1, -1, items.size) s → wpAny (model prog w) A (Builtin.Slice.sliceApplied (.ref sl) (pure ((items.size : Nat) : Int))) R E s := by
    intro A E R q
    unfold Builtin.Slice.sliceApplied Builtin.Slice.sliceFields
    refine wpAny_bind (wpAny_bind (wpAny_field hos hds (x := .none) rfl (wpAny_bind (wpAny_field hos hds (x := .none) rfl (wpAny_bind (wpAny_field hos hds (x := vs) rfl (wpAny_pure ?_)))))))
    refine wpAny_bind (slicePart_ ps ?_)
    show wpAny _ _ (if ((-1 : Int) == 0) = true then _ else _) _ _ s
    rw [if_neg (by decide)]
    refine wpAny_bind (slicePart_none (wpAny_bind (slicePart_none (wpAny_bind (wpAny_pure ?_)))))
    have e1 : Builtin.Slice.sliceAdjust none none (-1) ((items.size : Nat) : Int) = (((items.size : Nat) : Int) - 1, -1) := rfl
    show wpAny _ _ (match Builtin.Slice.sliceAdjust none none (-1) ((items.size : Nat) : Int) with | (lo, hi) => pure (lo, (-1 : Int), Builtin.Slice.slicePlaces lo hi (-1))) _ _ s
    rw [e1]
    have e2 : Builtin.Slice.slicePlaces (((items.size : Nat) : Int) - 1) (-1) (-1) = items.size := by
      unfold Builtin.Slice.slicePlaces
      have h1 : ¬ ((-1 : Int) > 0) := by decide
      have h2 : (- -1 : Int) = 1 := by decide
      simp only [h1, if_false, h2, Int.ediv_one]
      split <;> omega
    show wpAny _ _ (pure (((items.size : Nat) : Int) - 1, (-1 : Int), Builtin.Slice.slicePlaces (((items.size : Nat) : Int) - 1) (-1) (-1))) _ _ s
    rw [e2]
    exact wpAny_pure q
  refine wpAny_bind (happ ?_)
  have hno : ¬ ((((items.size : Nat) : Int) - 1 == 0 && (-1 : Int) == 1 && items.size == items.size) = true) := by
    intro q
    rw [Bool.and_eq_true, Bool.and_eq_true] at q
    exact absurd (eq_of_beq q.1.2) (by decide)
  show wpAny _ _ (if (((items.size : Nat) : Int) - 1 == 0 && (-1 : Int) == 1 && items.size == items.size) = true then _ else _) _ _ s
  rw [if_neg hno, rev_pick]
  first
    | exact wpAny_bind (m := Builtin.Tuple.tupleExact _) (wpAny_newObj_type (wpAny_pure ⟨_, rfl, wpAny_pure h⟩) htake)
    | exact wpAny_bind (m := Builtin.Tuple.tupleExact _) (wpAny_newObj_type (wpAny_bind (wpAny_pure (wpAny_pure ⟨_, rfl, wpAny_pure h⟩))) htake)
    | exact wpAny_bind (wpAny_bind (m := Builtin.Tuple.tupleExact _) (wpAny_newObj_type (wpAny_pure (wpAny_pure ⟨_, rfl, wpAny_pure h⟩)) htake))
    | exact wpAny_bind (wpAny_bind (m := Builtin.Tuple.tupleExact _) (wpAny_newObj_type (wpAny_pure ⟨_, rfl, wpAny_pure h⟩) htake))
end
/-- t[::-1], t a tuple -/
def tRevT (K : PySem.W.Frag) (te : TE) : TE := fun σ H Q => te σ H fun x H1 => ∃ a xs, x = .ref a ∧ SqT K H1 a xs ∧ ∀ p, H1 p = none → Q (.ref p) (upd H1 p (.tup xs.reverse))
theorem pe_revT {X : Cx} {e : Expr} {te : TE} {k : Nat} {p1 p2 p3 pos : Pos} (he : PE X e te) : PE X (.Subscript e (.Slice none none (some (.UnaryOp .USub (.Constant (.int 1) k p1) p2)) p3) pos) (tRevT X.K te) := by
  refine ⟨fun pins s σ H Q I h => ?_⟩
  refine Subscript_ (thn (he.run pins s σ H _ I h) fun v s1 ⟨x, H1, I1, r1, q1⟩ => ?_)
  obtain ⟨a, xs, ex, hx, q⟩ := q1
  subst ex
  cases r1
  have hst : PO X (some (.UnaryOp .USub (.Constant (.int 1) k p1) p2)) (tPart (tUn (rU fun i => .int (-i)) (tC (.int 1)))) := po_some (pe_un un_neg pe_int)
  refine wpAny_Slice (thn (po_none.run pins s1 σ H1 (fun o H2 => o = none ∧ H2 = H1) I1 ⟨rfl, rfl⟩) fun vl s2 ⟨l, H2, I2, pl, el, e2⟩ => ?_)
  subst el e2
  refine thn (po_none.run pins s2 σ H2 (fun o H3 => o = none ∧ H3 = H2) I2 ⟨rfl, rfl⟩) fun vu s3 ⟨u, H3, I3, pu, eu, e3⟩ => ?_
  subst eu e3
  refine thn (hst.run pins s3 σ H3 (fun o H4 => o = some (-1) ∧ H4 = H3) I3 ⟨1, rfl, -1, rfl, rfl, rfl⟩) fun vs s4 ⟨o, H4, I4, ps, eo, e4⟩ => ?_
  subst eo e4
  have I5 : Inv X pins σ H4 { s4 with heap := s4.heap.push { cls := .type "slice", data := .fields #[vl, vu, vs] } } := I4.kept (t' := s4.toks) fun b ob q => Heap.get?_push_of_some _ q
  obtain ⟨its, r, ht, hz⟩ := I5.tuple hx
  have hlen := r.length
  cases pl
  cases pu
  show wpAny (model X.prog X.w) X.A (subscriptTail e (.Slice none none (some (.UnaryOp .USub (.Constant (.int 1) k p1) p2)) p3) (.ref a) (.ref s4.heap.objs.size)) (EP X pins σ Q) X.xe { s4 with heap := s4.heap.push { cls := .type "slice", data := .fields #[.none, .none, vs] } }
  refine tail_any (ops := [.ref a, .ref s4.heap.objs.size]) ht.typeIs PyProof.Rows.slot_tuple_getitem.lookup (getItem_tuple_rev ht (Heap.IsSliceOf.new _ _ _ vs) ps ?_ (by rw [List.size_toArray, ← hlen]; exact hz)) (by with_unfolding_all rfl)
  refine ⟨.ref _, _, I5.laid (t' := s4.toks) (o := .tup xs.reverse) (fun b ob q => Heap.get?_push_of_some _ q) (Nat.le_refl _) ⟨by rw [List.length_reverse]; exact hz, _, r.reverse, IsTup.new _ _⟩, rfl, q _ (I5.hok.fresh (Nat.le_refl _))⟩

/-! ### a cut between two statements -/
def tCut (t u : TS) : TS := fun D σ H => ∃ I : L2.St → Hp → Prop, t { nx := I, rt := D.rt, bk := D.bk, ct := D.ct } σ H ∧ ∀ τ G, I τ G → u D τ G
theorem pss_cut {X : Cx} {st : Stmt} {rest : List Stmt} {t u : TS} (h1 : PS X st t) (h2 : PSs X rest u) : PSs X (st :: rest) (tCut t u) := by
  refine ⟨fun pins s σ H D J q => ?_⟩
  obtain ⟨I, q1, q2⟩ := q
  refine wpAny_execs_cons (thn (h1.run pins s σ H _ J q1) fun f s1 r => ?_)
  match f, r with
  | .next, ⟨τ, G, J1, r1⟩ => exact h2.run pins s1 τ G D J1 (q2 τ G r1)
  | .brk, r => exact r
  | .cont, r => exact r
  | .ret u, r => exact r
end XX

set_option maxRecDepth 100000
set_option maxHeartbeats 4000000
namespace XX
open PySem PySem.Spec PyProof.Rows L2
/-! ### promises of defs that are kept where no object is being shown (repr) -/
structure FnG (P : Program) (w : World) (K : PySem.W.Frag) (mg : Str → Option Value) (base : Heap) (CX : CXT) (k : Nat) (f : Addr) (fd : FuncData) (ps : List Str) (sp : Sp) : Prop where
  lenG : ∀ vs H Q E, sp vs H Q E → vs.length = ps.length
  runG : ∀ (A : Around) (outer : List Env) (s : Shared) (H : Hp) (args : Args) (us : List Value) (vs : List V) (Q : VK) (E : XK), A.guards = some [] → Room k A → Env0 P w K mg base A outer s H →
    BindsTo s fd args (ps.zip us) → Vals vs us → sp vs H Q E → codeAny (model P w) A (.call (.ref f) args) (CR CX outer P w H s Q E) s
structure FnD (P : Program) (w : World) (K : PySem.W.Frag) (mg : Str → Option Value) (base : Heap) (CX : CXT) (k : Nat) (x : Str) (ps : List Str) (sp : Sp) : Prop where
  ex : ∃ (f : Addr) (fd : FuncData), FnG P w K mg base CX k f fd ps sp ∧ mg x = some (.ref f) ∧ PySem.W.keepIn K (.ref f) = true ∧ Binds K fd ps []
section
variable {P : Program} {w : World} {K : PySem.W.Frag} {mg : Str → Option Value} {base : Heap}
theorem guards_deeper {A : Around} {env : Env} (h : A.guards = some []) : (A.deeper env).guards = some [] := h
theorem Def.okG {CX : CXT} {x : Str} {st : Stmt} {N ps : List Str} {k : Nat} {sp : Sp} (D : Def K mg x st ps) (S : FnScope N ps (defScope st)) (len : ∀ vs H Q E, sp vs H Q E → vs.length = ps.length)
    (hbody : ∀ (f : Addr) (cdv : Value) (A : Around) (outer : List Env) (s : Shared) (H : Hp) (vs : List V) (Q : VK) (E : XK), (A.deeper (envOfC x (defScope st) s.heap.objs.size f cdv)).guards = some [] → Room k (A.deeper (envOfC x (defScope st) s.heap.objs.size f cdv)) → sp vs H Q E →
      ∃ t, PSs (cxOf CX P w K mg base N x (defScope st) f cdv A outer s H E) (defBody st) t ∧ t { nx := fun _ H' => Q .non H', rt := Q } (L2.start N vs) H) : FnD P w K mg base CX (k + 1) x ps sp := by
  obtain ⟨f, fd, F, hm, hb⟩ := D.ex
  refine ⟨f, fd, ⟨len, fun A outer s H args us vs Q E hg hr e0 hbd r hsp => ?_⟩, hm, F.kp, hb⟩
  obtain ⟨oc, od, kV, doc, pm, an, cdv, ct, osl, rfl, lk, hcd⟩ := F.ex
  have len0 := len _ _ _ _ hsp
  have hin : K.In s.heap := e0.mod.kin.keeps fun b o q => (e0.bs b o q).1
  have hnl : s.heap.NoLimit := e0.mod.nolimit.keeps fun b o q => (e0.bs b o q).1
  have knd : ∀ y ∈ ps.zip us, (defScope st).names.lookup y.1 = some .local ∨ ((defScope st).names.lookup y.1 = some .cell ∧ ((cellsFrom (s.heap.objs.size + 1) (defScope st).names []).lookup y.1).isSome = true) := by
    rintro ⟨n, v⟩ hy
    exact (S.par n (List.of_mem_zip hy).1).imp id fun q => ⟨q, PySem.W.cellsFrom_some _ _ _ (.inl q)⟩
  refine codeAny_call_function hr.depth (hin _ _ lk) rfl S.co S.gen rfl (PySem.W.codeRec_of hin hcd) (hbd _ _ _ _ (wpAny_newFunctionEnv_cells S.kind knd fun env he s1 x1 => ?_))
  subst he
  refine ⟨hnl.keeps x1.toInCall.keep, codeAny_func ?_⟩
  obtain ⟨t, ht, hq⟩ := hbody f cdv A outer s H vs Q E (guards_deeper hg) (hr.deeper _) hsp
  have fin : ∀ {s' : Shared} {τ : L2.St} {H' : Hp} {v : V} {u : Value}, Inv (cxOf CX P w K mg base N x (defScope st) f cdv A outer s H E) [] τ H' s' → RelV v u → Q v H' → CE outer P w H s Q u s' :=
    fun J rv q => ⟨_, _, J.os, J.bare, J.base, J.hok, rv, q⟩
  refine wpAny_mono (ht.run [] s1 (L2.start N vs) H _ (inv_start S hr.hd e0 len0 r x1) hq) (fun fl s' hs => ?_) fun e s' hs => hs
  match fl, hs with
  | .ret u, ⟨v, τ, H', J, rv, q⟩ => exact fin J rv q
  | .next, ⟨τ, H', J, q⟩ => exact fin (v := V.non) (u := Value.none) J rfl q
  | .brk, ⟨_, _, _, q⟩ => exact q.elim
  | .cont, ⟨_, _, _, q⟩ => exact q.elim
end
section
variable {X : Cx} {CX : CXT} {k : Nat} {x : Str} {ps : List Str} {sp : Sp} {p pos : Pos} {e : Expr} {es : List Expr} {t : TA} {E : XK}
theorem pe_d (c : FnD X.prog X.w X.K X.mg X.base CX k x ps sp) (hgu : X.A.guards = some []) (hr : Room k X.A) (hx : Passes CX X E) (hg : Gl X x) (ha : PA X (e :: es) t) (hdb : (x == ("__debug__" : Str)) = false := by decide)
    (he : starEach (e :: es) X.env = (false, eval e X.env) :: starEach es X.env := by rfl) (hpl : (backTo pos (starEach es X.env)).any (·.1) = false := by rfl) :
    PE X (.Call (.Name x p) (e :: es) [] pos) (tCall sp [] E t) := by
  obtain ⟨f, fd, F, hm, hk, hb⟩ := c.ex
  refine ⟨fun pins s σ H Q I h => wpAny_Call_Name_kw (ld_glob I hg hm (PySem.W.callWith_K (h₀ := X.base) I.ok.mod.kin hk (thn (ha.run pos pins s σ H _ I h) fun us s1 ⟨vs, H1, I1, r, q⟩ => ⟨I1.kIn, ?_⟩) he hpl) hdb)⟩
  have q' : sp vs H1 Q E := List.append_nil vs ▸ q
  have hl : us.length = ps.length := by rw [← Vals.length r]; exact F.lenG _ _ _ _ q'
  have hbd := hb s1 us I1.kIn (by rw [List.append_nil]; exact hl)
  rw [List.append_nil] at hbd
  refine wpAny_call (codeAny_mono (F.runG X.A X.stack s1 H1 ⟨us, []⟩ us vs Q E hgu hr I1.env0 hbd r q') fun r2 s' hq => ?_)
  match r2, hq with
  | .error er, hq => exact hx pins σ H1 s1 er s' I1 hq
  | .ok (.ret u), hq => exact I1.after hq
  | .ok .next, hq => exact False.elim hq
  | .ok .brk, hq => exact False.elim hq
  | .ok .cont, hq => exact False.elim hq
end
/-! ### repr of data -/
def rReprD (K : PySem.W.Frag) : List V → Hp → VK → Prop := fun xs H Q => ∃ (v : V) (d : PyData), xs = [v] ∧ Dp K H v d ∧ d.showable = true ∧ d.hasDict = false ∧ d.depth ≤ 64 ∧ d.shown.length ≤ sizeLine ∧ Q (.str d.shown) H
section
variable {X : Cx}
theorem call_reprD (hg : X.A.guards = some []) (hu : X.A.units + 80 < cLine) : CallR X (.builtin "repr") (rReprD X.K) := by
  intro pins s σ H xs us Q I r h
  obtain ⟨v, d, rfl, hd, h1, h2, h3, h4, q⟩ := h
  obtain ⟨u, rfl, ru⟩ := vals1 r
  obtain ⟨as, rd⟩ := Dp.reads I d v u hd ru
  cases rd with
  | none => exact PySem.P.repr_of_none ⟨.str _, H, I.tok _, ⟨_, rfl⟩, q⟩
  | bool b => exact PySem.P.repr_of_bool ⟨.str _, H, I.tok _, ⟨_, rfl⟩, q⟩
  | int i t => exact PySem.P.repr_of_int (by simpa [PyData.showable] using h1) ⟨.str _, H, I.tok _, ⟨_, rfl⟩, q⟩
  | str x t => exact PySem.P.repr_of_str ⟨.str _, H, I.tok _, ⟨_, rfl⟩, q⟩ (by simpa [PyData.shown] using h4)
  | list a1 a2 a3 a4 => exact repr_of_reads' (.list a1 a2 a3 a4) h1 (fun z => by rw [h2] at z; cases z) hg (by omega) (fun _ _ e => e) (fun h' u tk hk => ⟨.str _, H, I.kept (t' := tk) hk, ⟨_, rfl⟩, q⟩) h4
  | tuple a1 a2 a3 a4 => exact repr_of_reads' (.tuple a1 a2 a3 a4) h1 (fun z => by rw [h2] at z; cases z) hg (by omega) (fun _ _ e => e) (fun h' u tk hk => ⟨.str _, H, I.kept (t' := tk) hk, ⟨_, rfl⟩, q⟩) h4
  | dict a1 a2 a3 a4 a5 => exact absurd h2 (by simp [PyData.hasDict])
end
end XX

set_option maxRecDepth 100000
set_option maxHeartbeats 4000000
namespace XX
open PySem PySem.Spec PyProof.Rows L2
/-- the script's abstract heap: nothing is tracked but, perhaps, the script at a -/
def scriptHp (a : Addr) (ob : Obj) (ns : List Int) : Hp := fun b => if b = a then some (.frz ob (.lst (ns.map V.int))) else none
theorem scriptHp_some {a b : Addr} {ob : Obj} {ns : List Int} {u : HO} (h : scriptHp a ob ns b = some u) : b = a ∧ u = .frz ob (.lst (ns.map V.int)) := by
  unfold scriptHp at h
  by_cases c : b = a
  · rw [if_pos c] at h
    exact ⟨c, (Option.some.inj h).symm⟩
  · rw [if_neg c] at h
    cases h
section
variable {P : Program} {w : World} {K : PySem.W.Frag} {mg mb : Str → Option Value} {CX : CXT} {k : Nat} {fa a : Addr} {fd : FuncData} {x : Str} {sp : Sp} {s₁ : Shared} {vs : List Value} {ns : List Int}
/-- the law's call from an abstract heap H that tracks at most the script -/
theorem law_core (KX : K.In s₁.heap) (hns : s₁.heap.Ns mainGlobals mg) (hb : s₁.heap.Ns builtinsNs mb) (hbb : ∀ x : Str, x ≠ "__name__" → mb x = bootBuiltins x) (hlim : s₁.heap.NoLimit) (hg : s₁.gens = #[])
    (ha : s₁.heap.get? a = some { cls := .type "list", data := .seq vs.toArray }) (hr : Room k callerA)
    (F : ∀ base : Heap, K.In base → base.Ns mainGlobals mg → FnG P w K mg base CX k fa fd [x] sp) (hbind : ∀ (s : Shared) (u : Value), BindsTo s fd ⟨[u], []⟩ [(x, u)])
    {H : Hp} (hsp : sp [.ref a] H (fun v _ => v = .bl true) fun _ _ _ => False) (hCX : ∀ e s', CX [] H s₁ (fun _ _ _ => False) e s' → False) (hO : Only H) (hok : HOk P w H s₁.heap) (hA : ∀ b u, H b = some u → b = a) (hK : ∀ u, H a = some u → K.lookup a = none) :
    codeAny (model P w) callerA (.call (.ref fa) ⟨[.ref a], []⟩) (fun r s' => r = .ok (.ret (.bool true)) ∧ OldK s₁.heap s'.heap ∧ s'.os = s₁.os ∧ AllBare s'.gens) s₁ := by
  have free : ∀ {b : Addr} {o : Obj} {es : Array DictEntry} {ep : Nat}, s₁.heap.get? b = some o → o.data = .dict es ep → H b = none := fun {b o es ep} e d => by
    cases q : H b with
    | none => rfl
    | some u =>
      have e' := hA b u q
      subst e'
      rw [ha] at e
      cases e
      cases d
  have nsH : ∀ {b : Addr} {m : Str → Option Value}, s₁.heap.Ns b m → (hidT s₁.heap H).Ns b m := fun {b m} ⟨o, es, ep, e, d, r⟩ => ⟨o, es, ep, hidT_get e (free e d), d, r⟩
  have kH : K.In (hidT s₁.heap H) := fun b o e => hidT_get (KX b o e) (by
    cases q : H b with
    | none => rfl
    | some u =>
      have e' := hA b u q
      subst e'
      rw [hK u q] at e
      cases e)
  obtain ⟨mc, l1, l2⟩ := hlim
  have md : Mod K mg (hidT s₁.heap H) := ⟨kH, nsH hns, ⟨mb, nsH hb, hbb⟩, ⟨mc, nsH l1, l2⟩⟩
  have e0 : Env0 P w K mg (hidT s₁.heap H) callerA [] s₁ H := ⟨rfl, md, fun b o e => of_hidT e, Nat.le_of_eq (hidT_size _ _), trivial, fun b z => absurd z List.not_mem_nil, hok, .of_eq hg⟩
  refine codeAny_mono ((F _ kH (nsH hns)).runG callerA [] s₁ H ⟨[.ref a], []⟩ [.ref a] [.ref a] _ _ rfl hr e0 (hbind s₁ (.ref a)) (.cons rfl .nil) hsp) fun r s' h => ?_
  match r, h with
  | .error e, h => exact (hCX e s' h).elim
  | .ok .next, h => exact False.elim h
  | .ok .brk, h => exact False.elim h
  | .ok .cont, h => exact False.elim h
  | .ok (.ret u), ⟨v, H', os, bare, un, hok', rv, ev⟩ =>
    have ev' : v = .bl true := ev
    subst ev'
    cases (show u = Value.bool true from rv)
    refine ⟨rfl, OldK.of_keep fun b o e => ?_, os, bare⟩
    rcases hO b with z | ⟨ob, xs, z⟩
    · exact un.keep b o e z List.not_mem_nil List.not_mem_nil
    · obtain ⟨e1, _⟩ := hok b _ z
      obtain ⟨e2, _⟩ := hok' b _ (un.frzs b ob _ z)
      rw [e] at e1
      cases e1
      exact e2
theorem law_callG (KX : K.In s₁.heap) (hns : s₁.heap.Ns mainGlobals mg) (hb : s₁.heap.Ns builtinsNs mb) (hbb : ∀ x : Str, x ≠ "__name__" → mb x = bootBuiltins x) (hlim : s₁.heap.NoLimit) (hg : s₁.gens = #[])
    (ha : s₁.heap.get? a = some { cls := .type "list", data := .seq vs.toArray }) (hi : IntsAre vs ns) (hl : ns.length ≤ sizeLine) (hr : Room k callerA)
    (F : ∀ base : Heap, K.In base → base.Ns mainGlobals mg → FnG P w K mg base CX k fa fd [x] sp) (hbind : ∀ (s : Shared) (u : Value), BindsTo s fd ⟨[u], []⟩ [(x, u)])
    (hsp : ∀ H : Hp, Only H → SqL K H a (ns.map V.int) → sp [.ref a] H (fun v _ => v = .bl true) fun _ _ _ => False) (hCX : ∀ H e s', CX [] H s₁ (fun _ _ _ => False) e s' → False) :
    codeAny (model P w) callerA (.call (.ref fa) ⟨[.ref a], []⟩) (fun r s' => r = .ok (.ret (.bool true)) ∧ OldK s₁.heap s'.heap ∧ s'.os = s₁.os ∧ AllBare s'.gens) s₁ := by
  have rv := vals_of_ints hi
  have lv := hi.length
  cases hk : K.lookup a with
  | some o =>
    have e := KX a o hk
    rw [ha] at e
    cases e
    have O0 : Only (fun _ => none) := fun _ => .inl rfl
    exact law_core KX hns hb hbb hlim hg ha hr F hbind (hsp _ O0 (.inr ⟨_, vs.toArray, _, hk, rfl, rfl, rfl, by rw [List.size_toArray, lv]; exact hl, by simpa using rv⟩)) (hCX _) O0 (fun b u z => nomatch z) (fun b u z => nomatch z) fun u z => nomatch z
  | none =>
    have O1 : Only (scriptHp a { cls := .type "list", data := .seq vs.toArray } ns) := fun b => by
      cases q : scriptHp a { cls := .type "list", data := .seq vs.toArray } ns b with
      | none => exact .inl rfl
      | some u => exact .inr ⟨_, _, by rw [(scriptHp_some q).2]⟩
    refine law_core KX hns hb hbb hlim hg ha hr F hbind (hsp _ O1 (.inl (.inr ⟨_, if_pos rfl⟩))) (hCX _) O1 (fun b u z => ?_) (fun b u z => (scriptHp_some z).1) fun _ _ => hk
    obtain ⟨e1, e2⟩ := scriptHp_some z
    subst e1 e2
    exact ⟨ha, by rw [List.length_map]; exact hl, vs, _, rv, ha⟩
end
theorem walk_ofG {l : PySem.W.OpenLaw} {n k : Nat} {q : Program} {loose : List Str} {XP : (Str → Option Value) → Heap → Prop} {YP : World → Heap → Prop} {d : DefRec} {K : Params → PySem.W.Frag} {CX : World → CXT} {sp : PySem.W.Frag → Sp} {x : Str}
    (hn : l.most = some n) (hn2 : n ≤ sizeLine) (hdf : d.params.defaults = []) (hr : Room k callerA) (hY : ∀ (w : World) (h : Heap), YP w h → (K w.params).In h)
    (F : ∀ (w : World) (mg : Str → Option Value) (fa : Addr) (h : Heap), (K w.params).In h → h.Ns mainGlobals mg → mg d.name = some (.ref fa) →
      ∃ fd : FuncData, (∀ (s : Shared) (u : Value), BindsTo s fd ⟨[u], []⟩ [(x, u)]) ∧ ∀ base : Heap, (K w.params).In base → base.Ns mainGlobals mg → FnG l.prog w (K w.params) mg base (CX w) k fa fd [x] (sp (K w.params)))
    (hsp : ∀ (K : PySem.W.Frag) (H : Hp) (a : Addr) (ns : List Int), ns.length ≤ n → Only H → SqL K H a (ns.map V.int) → sp K [.ref a] H (fun v _ => v = .bl true) fun _ _ _ => False)
    (hCX : ∀ (w : World) (H : Hp) (s : Shared) (e : Value) (s' : Shared), CX w [] H s (fun _ _ _ => False) e s' → False) :
    PySem.W.WalkO q loose XP YP l.row.toRowW d [] (fun f vs => PySem.call f vs) := by
  refine Att.attach_call hn hdf fun w s₀ s₁ mg mb fa o pm cd doc a vs ns G Y ho hd hcd hmg hobj hints hlen hg => ?_
  have KX := hY w _ Y
  obtain ⟨fd, hb, hF⟩ := F w mg fa _ KX G.T.g hmg
  exact law_callG KX G.T.g G.T.b G.T.builtins G.T.nolimit hg hobj hints (Nat.le_trans hlen hn2) hr hF hb (fun H hO hS => hsp _ H a ns hlen hO hS) fun H e s' => hCX w H s₁ e s'
end XX

set_option maxRecDepth 100000
set_option maxHeartbeats 4000000
namespace XX
open PySem PySem.Spec PyProof.Rows L2
/-! ### try: .. except C1 as n: .. except C2 as n: .. -/
abbrev Clause := Value × (Addr → Value → Option Addr → TS)
/-- what the clauses wish of an exception, the first that takes it; slot i is n's -/
def wMA (K : PySem.W.Frag) (i : Nat) (Wout : WX) (D : Ends) : List Clause → WX
  | [] => Wout
  | c :: r => wAs K c.1 i c.2 (wMA K i Wout D r) D
inductive HdsAs (X : Cx) (n : Str) : List ExceptHandler → List Clause → Prop
  | nil : HdsAs X n [] []
  | cons {x : Str} {c : Value} {ts : Addr → Value → Option Addr → TS} {b₀ : Stmt} {suite : List Stmt} {np pos' : Pos} {hds : List ExceptHandler} {l : List Clause} (hc : Names X x c)
      (hsu : ∀ (a : Addr) (oe : Obj) (cls : Value) (d : Option Addr) (pn : List (Addr × Obj)), Zc cls d oe → (∃ vs, oe.data = .fields vs) → PSs (X.suite a ((a, oe) :: pn)) (b₀ :: suite) (ts a cls d)) (r : HdsAs X n hds l) :
      HdsAs X n (.ExceptHandler (some (.Name x np)) (some n) (b₀ :: suite) pos' :: hds) ((c, ts) :: l)
section
variable {X : Cx} {n : Str} {i : Nat} {body : List Stmt} {h₀ : ExceptHandler} {hds : List ExceptHandler} {l : List Clause} {pos : Pos} {tb : WX → TS} {Wout : WX}
theorem ps_try_mas (hs : X.stack = X.env :: X.outer) (hf : X.env.frame = some X.env.locals) (hN : X.N.Nodup) (hi : X.N[i]? = some n) (hln : X.env.kindOf n = some .local) (tk : Takes X Wout)
    (hb : ∀ (W : WX) (pn : List (Addr × Obj)) (xe : Value → Shared → Prop), Takes (X.tr pn xe) W → PassesOwn (model X.prog X.w) X.A X.env xe → PSs (X.tr pn xe) body (tb W))
    (hh : HdsAs X n (h₀ :: hds) l) : PS X (.Try body (h₀ :: hds) [] [] pos) (fun D σ H => tb (wMA X.K i Wout D l) D σ H) := by
  refine ⟨fun pins s σ H D I h => ?_⟩
  have ok := I.ok
  have hfr : X.A.frames = some (X.env :: X.outer) := by rw [ok.frames, hs]
  have hloc : Loc X.env.scope n := .inl hln
  refine wpAny_Try_except (wpAny_mono ((hb (wMA X.K i Wout D l) (X.pn ++ pins) (fun e s₁ => wpAny (model X.prog X.w) X.A (noteFrame e X.env) (fun _ s₂ => wpAny (model X.prog X.w) X.A (setFlight e none) (fun _ s₃ =>
    wpAny (model X.prog X.w) X.A (handleBy e X.env (h₀ :: hds)) (SP X pins D) X.xe s₃) X.xe s₂) X.xe s₁) (fun u s' xx => ?_) PassesOwn.looking).run [] s σ H D (I.toTry _) h) (fun f s1 hsp => ?_) (fun e s1 he => he))
  · obtain ⟨a, B, sI, pins', σ', H', cls, d, rfl, J', nb, up, sky, na, os, ag, w⟩ := xx
    have J : Inv X pins σ' H' sI := J'.ofTry ok
    rw [hs] at sky
    refine Sky.land Zc.steady hfr hf sky fun h3 fl3 up3 => ?_
    have J3 : Inv X pins σ' H' { s' with heap := h3 } := J.landed nb fl3.1 (up.trans up3) os ag
    obtain ⟨oe3, vs3, he3, hz3, hd3⟩ := fl3.there
    have nfr : a ∉ frs (X.env :: X.outer) := fun hm => by
      obtain ⟨_, o', e', hnf⟩ := fl3.2.2.1.mem hm
      rw [he3] at e'
      cases e'
      exact hnf _ hd3
    have nL : a ≠ X.env.locals := fun z => nfr (List.mem_filterMap.mpr ⟨X.env, List.mem_cons_self, by rw [hf, z]⟩)
    have nF : a ∉ X.fs := fun hm => by
      obtain ⟨e, he, q⟩ := List.mem_filterMap.mp hm
      exact nfr (List.mem_filterMap.mpr ⟨e, List.mem_cons_of_mem _ he, q⟩)
    have S3 := J3.suite he3 hd3 na nL nF
    have go : ∀ {hds' : List ExceptHandler} {l' : List Clause}, HdsAs X n hds' l' → wMA X.K i Wout D l' cls d σ' H' →
        wpAny (model X.prog X.w) X.A (handleBy (.ref a) X.env hds') (SP X pins D) X.xe { s' with heap := h3 } := by
      intro hds' l' hk
      induction hk with
      | nil =>
        intro w
        refine wpAny_handleBy_nil ?_
        obtain ⟨k1, k2, k3, oe, vs, T, oT, ts', he, hz, hd, h1, hr⟩ := id fl3
        unfold PySem.passOn
        refine wpAny_bind (wpAny_field he hd h1 ?_)
        rw [if_neg (show ¬ ((Value.ref T == Value.none) = true) from by simp)]
        have fin : wpAny (model X.prog X.w) X.A (setFlight (.ref a) X.env.frame) (fun _ s4 => wpAny (model X.prog X.w) X.A (throw (.ref a) : Sem Flow) (SP X pins D) X.xe s4) X.xe { s' with heap := h3 } := by
          rw [hf]
          refine HandSPX.setFlight_upZ fl3 fun h4 hh4 up4 => wpAny_throw (tk _ _ ?_)
          exact ⟨a, B, sI, pins, σ', H', cls, d, rfl, J, nb, (up.trans up3).trans up4, .inr (.inr (by rw [hs]; exact hh4)), na, os, ag, w⟩
        first
          | exact wpAny_bind (wpAny_pure (wpAny_bind fin))
          | exact wpAny_bind fin
      | @cons x c ts b₀ suite np pos' hds2 l2 hc hsu r ih =>
        rintro ⟨b, hb1, hyes, hno⟩
        refine wpAny_handleBy_cons (codeAny_handlers_test ?_) (by intro q; cases q)
        have LT : PySem.W.Looks (model X.prog X.w) h3 (typeOf (.ref a)) cls := fun A Q E s k q => wpAny_typeOf_ref (k _ _ he3) (by rw [hz3.1]; exact q)
        have LM := PySem.W.exm_one (M := model X.prog X.w) (J3.kIn) LT hb1
        have test : ∀ {Q : Value → Shared → Prop} {E : Value → Shared → Prop}, Q c { s' with heap := h3 } → wpAny (model X.prog X.w) (X.A.mark (some (.ref a))) (eval (.Name x np) X.env) Q E { s' with heap := h3 } := fun {Q E} q => by
          obtain ⟨hg, hdbg, hm | ⟨hm, hv, hnn⟩⟩ := hc
          · exact ld_glob (X := X.suite a ((a, oe3) :: (X.pn ++ pins))) S3 hg hm q hdbg
          · exact ld_blt (X := X.suite a ((a, oe3) :: (X.pn ++ pins))) S3 hg hm hv q hnn hdbg
        refine test (LM.here ?_)
        cases b with
        | true =>
          refine codeAny_handlers_suite_as (HandSPX.lands_againZ fl3 fun h4 fl4 up4 => ?_)
          have J4 : Inv X pins σ' H' { s' with heap := h4 } := J.landed nb fl4.1 ((up.trans up3).trans up4) os ag
          obtain ⟨oe4, vs4, he4, hz4, hd4⟩ := fl4.there
          have S4 := J4.suite he4 hd4 na nL nF
          refine store_ok (X := X.suite a ((a, oe4) :: (X.pn ++ pins))) (v := .ref a) S4 hN hi hloc rfl (fun s5 S5 => ?_) (.inr hln)
          refine wpAny_mono ((hsu a oe4 cls d (X.pn ++ pins) hz4 ⟨_, hd4⟩).run [] s5 _ H' _ S5 (hyes rfl a na)) (fun f s6 hsp => ?_) (fun _ _ z => False.elim z)
          have stop : ∀ {τ : L2.St} {H6 : Hp} {Q : Shared → Prop}, Inv (X.suite a ((a, oe4) :: (X.pn ++ pins))) [] τ H6 s6 → (∀ s7, Inv X pins (τ.set i none) H6 s7 → Q s7) →
              wpAny (model X.prog X.w) X.A (do bindName X.env n .none; unbindBehindTheSuite X.env n pos') (fun _ s7 => Q s7) X.xe s6 := fun {τ H6 Q} S6 hq => gone_ok (S6.unsuite ok) hN hi hln hq
          match f, hsp with
          | .next, ⟨τ, H6, S6, q6⟩ => exact stop S6 fun s7 J7 => ⟨_, _, J7, q6⟩
          | .brk, ⟨τ, H6, S6, q6⟩ => exact stop S6 fun s7 J7 => ⟨_, _, J7, q6⟩
          | .cont, ⟨τ, H6, S6, q6⟩ => exact stop S6 fun s7 J7 => ⟨_, _, J7, q6⟩
          | .ret u, ⟨v6, τ, H6, S6, r6, q6⟩ => exact stop S6 fun s7 J7 => ⟨_, _, _, J7, r6, q6⟩
        | false =>
          show wpAny _ X.A (handleBy (.ref a) X.env hds2) _ _ _
          exact ih (hno rfl)
    exact go hh w
  · match f, hsp with
    | .next, ⟨τ, H', J', q⟩ => exact wpAny_execs_nil ⟨τ, H', J'.ofTry ok, q⟩
    | .brk, ⟨τ, H', J', q⟩ => exact ⟨τ, H', J'.ofTry ok, q⟩
    | .cont, ⟨τ, H', J', q⟩ => exact ⟨τ, H', J'.ofTry ok, q⟩
    | .ret u, ⟨v, τ, H', J', r, q⟩ => exact ⟨v, τ, H', J'.ofTry ok, r, q⟩
end
end XX

set_option maxRecDepth 100000
set_option maxHeartbeats 4000000
namespace XX
open PySem PySem.Spec PyProof.Rows L2
/-! ### the package's errors: an own class under ValueError whose __init__ keeps one value -/
/-- what the written part says of such a class, under the name x, its __init__ (its own or inherited) at fI -/
structure ErrC (K : PySem.W.Frag) (mg : Str → Option Value) (x : Str) (C fI : Addr) : Prop where
  g : mg x = some (.ref C)
  oex : OexC K C
  xf : XfC K C
  ini : PySem.W.findIn K (.ref C) "__init__" = some (some (.ref fI))
  tI : PySem.W.typeIn K (.ref fI) = some (.type "function")
  no : PySem.W.findIn K (.ref C) "value" = some none
/-- its __init__: self.value is told -/
def spErr (K : PySem.W.Frag) : Sp := fun vs H Q _ => ∃ (a C : Addr) (v : V), vs = [.ref a, v] ∧ OexC K C ∧ PySem.W.findIn K (.ref C) "value" = some none ∧ H a = some (exo a C none) ∧
  ∀ dx, H dx = none → dx ≠ a → Q .non (upd (upd H dx (exd dx [("value", v)])) a (exo a C (some dx)))
theorem err_heap {H : Hp} {a dx : Addr} {o1 o2 o3 u : HO} (h : dx ≠ a) (ha : H a = none) : upd (del (upd (upd (upd H a o1) dx o2) a o3) a) dx u = upd H dx u := by
  funext b
  by_cases hb : b = dx
  · rw [hb, upd_same, upd_same]
  · rw [upd_ne hb, upd_ne hb]
    by_cases hc : b = a
    · rw [hc, del_same, ha]
    · rw [del_ne hc, upd_ne hc, upd_ne hb, upd_ne hc]
/-- what raising asks behind its value v: the way out at the error's own dict -/
theorem err_of {K : PySem.W.Frag} {C : Addr} {v : V} {H : Hp} {Q : XK} (oex : OexC K C) (no : PySem.W.findIn K (.ref C) "value" = some none) (h : ∀ d, H d = none → Q (.ref C) (some d) (upd H d (.xd [("value", v)]))) :
    ([v] : List V).length ≤ 1000 ∧ ∀ a, H a = none → spErr K (.ref a :: ([v] ++ [])) (upd H a (exo a C none))
      (fun v' H2 => v' = .non ∧ ∃ (d : Addr) (fs : List (Str × V)), H2 a = some (exo a C (some d)) ∧ H2 d = some (exd d fs) ∧ H d = none ∧ Q (.ref C) (some d) (upd (del H2 a) d (.xd fs))) (fun _ _ _ => False) := by
  refine ⟨(by show 1 ≤ 1000; decide), fun a ha => ⟨a, C, v, rfl, oex, no, upd_same, fun dx hd hne => ⟨rfl, dx, [("value", v)], upd_same, by rw [upd_ne hne, upd_same], ?_, ?_⟩⟩⟩
  · rw [upd_ne hne] at hd
    exact hd
  · rw [upd_ne hne] at hd
    rw [err_heap hne ha]
    exact h dx hd
section
variable {X : Cx} {CX : CXT} {k : Nat} {x : Str} {C fI : Addr} {fd : FuncData} {p pos pos2 : Pos} {e : Expr} {te : TE} {W : WX}
/-- raise x(e) -/
def tErr (K : PySem.W.Frag) (C : Addr) (W : WX) (te : TE) : TS := fun _ σ H => tMkO C (spErr K) [] (tCons te tNil) σ H fun cls d H' => W cls d σ H'
theorem ps_err (T : ErrC X.K X.mg x C fI) (F : FnOk X.prog X.w X.K X.mg X.base CX0 k fI fd ["self", "value"] (spErr X.K)) (hb : Binds X.K fd ["self", "value"] []) (hr : Room (k + 1) X.A) (hc : X.calm = true) (tk : Takes X W) (he : PE X e te) (hg : Gl X x)
    (hdb : (x == ("__debug__" : Str)) = false := by decide) (hs : starEach [e] X.env = [(false, eval e X.env)] := by rfl) (hs0 : starEach (e :: []) X.env = (false, eval e X.env) :: starEach [] X.env := by rfl) (hpl : (backTo pos (starEach [] X.env)).any (·.1) = false := by rfl) :
    PS X (.Raise (some (.Call (.Name x p) [e] [] pos)) none pos2) (tErr X.K C W te) :=
  ps_raise hc tk (pmk_oex T.oex T.ini T.tI F hr hb .nil pass0 hg T.g (pa_cons he pa_nil hs0) hdb hs0 hpl)
end
end XX

set_option maxRecDepth 100000
set_option maxHeartbeats 4000000
namespace XX
open PySem PySem.Spec PyProof.Rows L2
/-! ### values by their data: the type, isinstance -/
def tyOf : PyData → String
  | .none => "NoneType"
  | .bool _ => "bool"
  | .int _ => "int"
  | .str _ => "str"
  | .list _ => "list"
  | .tuple _ => "tuple"
  | .dict _ => "dict"
theorem ty_dp {K : PySem.W.Frag} {H : Hp} {v : V} {d : PyData} (h : Dp K H v d) : TyX K H v (.type (tyOf d)) := by
  cases h with
  | non => exact .base .non
  | bl b => exact .base (.bl b)
  | int i => exact .base (.int i)
  | str x => exact .base (.str x)
  | lst hs _ =>
    rcases hs with (e | ⟨o, e⟩) | ⟨o, its, n, e, c, _⟩
    · exact .base (.lst e)
    · exact .base (.frz e)
    · exact .kList e c
  | tup hs _ =>
    rcases hs with (e | ⟨o, e⟩) | ⟨o, its, n, e, c, _⟩
    · exact .base (.tup e)
    · exact .fTuple e
    · exact .kTuple e c
def isTy (a b : String) : Bool := a == b || (a == "bool" && b == "int")
def knownTy (T : String) : Prop := T = "int" ∨ T = "bool" ∨ T = "str" ∨ T = "tuple" ∨ T = "list"
theorem kitB_is : ∀ a ∈ ["NoneType", "bool", "int", "str", "list", "tuple", "dict"], ∀ b ∈ ["int", "bool", "str", "tuple", "list"], kitB a b = some (isTy a b) := by decide +kernel
theorem tyOf_mem (d : PyData) : tyOf d ∈ ["NoneType", "bool", "int", "str", "list", "tuple", "dict"] := by cases d <;> simp [tyOf]
theorem kit_is {K : PySem.W.Frag} (d : PyData) {T : String} (h : knownTy T) : PySem.W.kitOne K (.type (tyOf d)) (.type T) = some (isTy (tyOf d) T) :=
  kit_ty (kitB_is _ (tyOf_mem d) _ (by rcases h with rfl | rfl | rfl | rfl | rfl <;> simp))
def rIsD (T : String) (K : PySem.W.Frag) : List V → Hp → VK → Prop := fun xs H Q => ∃ (x : V) (d : PyData), xs = [x, .ty T] ∧ Dp K H x d ∧ Q (.bl (isTy (tyOf d) T)) H
theorem CallR.imp {X : Cx} {f : Value} {r r' : List V → Hp → VK → Prop} (h : CallR X f r) (i : ∀ xs H Q, r' xs H Q → r xs H Q) : CallR X f r' := fun pins s σ H xs us Q I rr q => h pins s σ H xs us Q I rr (i _ _ _ q)
theorem call_isD {X : Cx} {T : String} (hT : knownTy T) : CallR X (.builtin "isinstance") (rIsD T X.K) := CallR.imp call_isi fun xs H Q ⟨x, d, e, h, q⟩ => ⟨x, .ty T, _, _, _, e, .ty T, ty_dp h, kit_is d hT, q⟩
theorem ty_int : knownTy "int" := .inl rfl
theorem ty_bool : knownTy "bool" := .inr (.inl rfl)
theorem ty_str : knownTy "str" := .inr (.inr (.inl rfl))
theorem ty_tuple : knownTy "tuple" := .inr (.inr (.inr (.inl rfl)))
theorem pe_ty {X : Cx} {x : Str} {pos : Pos} (T : String) (hg : Gl X x) (hm : X.mg x = none) (hv : bootBuiltins x = some (.type T) := by decide +kernel) (hn : x ≠ "__name__" := by decide) (hd : (x == ("__debug__" : Str)) = false := by decide) : PE X (.Name x pos) (tC (.ty T)) := pe_bltn (v := .ty T) (u := .type T) hg hm hv rfl hn hd
theorem kit_is2 {K : PySem.W.Frag} (d : PyData) {T U : String} (h : knownTy T) (h2 : knownTy U) : PySem.W.kitAny K (.type (tyOf d)) [.type T, .type U] = some (isTy (tyOf d) T || isTy (tyOf d) U) := by
  refine kitAny_cons (kit_is d h) (fun e => ?_) fun e => by rw [e]; rfl
  rw [e, Bool.false_or]
  refine kitAny_cons (kit_is d h2) (fun e => ?_) fun e => e
  rw [e]
  rfl
theorem ty_list : knownTy "list" := .inr (.inr (.inr (.inr rfl)))
/-! ### the checks, of data -/
def btw (d : PyData) (lo hi : Int) : Bool := match d with
  | .int i => decide (lo ≤ i) && decide (i ≤ hi)
  | _ => false
def wordS (z : Str) : Bool := decide (1 ≤ z.length) && decide (z.length ≤ 8) && z.cps.toList.all fun c => decide (97 ≤ c ∧ c ≤ 122)
def wordB : PyData → Bool
  | .str z => wordS z
  | _ => false
theorem isTy_int (d : PyData) : isTy (tyOf d) "int" = (match d with | .int _ => true | .bool _ => true | _ => false) := by cases d <;> rfl
theorem isTy_bool (d : PyData) : isTy (tyOf d) "bool" = (match d with | .bool _ => true | _ => false) := by cases d <;> rfl
theorem isTy_str (d : PyData) : isTy (tyOf d) "str" = (match d with | .str _ => true | _ => false) := by cases d <;> rfl
theorem isTy_tuple (d : PyData) : isTy (tyOf d) "tuple" = (match d with | .tuple _ => true | _ => false) := by cases d <;> rfl
/-! ### small data -/
mutual
def sm : PyData → Bool
  | .str z => decide (z.length ≤ 1000) && z.cps.all (· < 0x110000)
  | .int i => decide (-10 ≤ i) && decide (i ≤ 1000)
  | .list ds => decide (ds.length ≤ 1000) && sms ds
  | .tuple ds => decide (ds.length ≤ 1000) && sms ds
  | .none => true
  | .bool _ => true
  | .dict _ => false
def sms : List PyData → Bool
  | [] => true
  | d :: ds => sm d && sms ds
end
theorem sms_mem : ∀ {ds : List PyData} {d : PyData}, sms ds = true → d ∈ ds → sm d = true
  | [], d, _, h => nomatch h
  | e :: ds, d, s, h => by
    rw [sms, Bool.and_eq_true] at s
    rcases List.mem_cons.mp h with rfl | h
    · exact s.1
    · exact sms_mem s.2 h
theorem sms_of : ∀ {ds : List PyData}, (∀ d ∈ ds, sm d = true) → sms ds = true
  | [], _ => rfl
  | e :: ds, h => by
    rw [sms, h e (List.mem_cons_self ..), sms_of fun d m => h d (List.mem_cons_of_mem _ m)]
    rfl
theorem sm_str {z : Str} (h : sm (.str z) = true) : z.length ≤ 1000 := by
  rw [sm, Bool.and_eq_true] at h
  exact of_decide_eq_true h.1
mutual
theorem sm_lay : ∀ {d : PyData}, sm d = true → d.canLay0 = true
  | .none, _ => rfl
  | .bool _, _ => rfl
  | .int _, _ => rfl
  | .str z, h => by
    rw [sm, Bool.and_eq_true] at h
    rw [PyData.canLay0]
    exact h.2
  | .list ds, h => by
    rw [sm, Bool.and_eq_true] at h
    rw [PyData.canLay0]
    exact sms_lay h.2
  | .tuple ds, h => by
    rw [sm, Bool.and_eq_true] at h
    rw [PyData.canLay0]
    exact sms_lay h.2
theorem sms_lay : ∀ {ds : List PyData}, sms ds = true → PyData.canLayAll0 ds = true
  | [], _ => rfl
  | d :: ds, h => by
    rw [sms, Bool.and_eq_true] at h
    rw [PyData.canLayAll0, sm_lay h.1, sms_lay h.2]
    rfl
end
theorem sm_shaped {d : PyData} (h : sm d = true) (hd : d.depth ≤ 64) : SeqAt.shaped d = true := by
  unfold SeqAt.shaped
  rw [sm_lay h, decide_eq_true hd]
  rfl
theorem sm_tup {ds : List PyData} (h : sm (.tuple ds) = true) : ds.length ≤ 1000 ∧ sms ds = true := by
  rw [sm, Bool.and_eq_true] at h
  exact ⟨of_decide_eq_true h.1, h.2⟩
theorem sm_lst {ds : List PyData} (h : sm (.list ds) = true) : ds.length ≤ 1000 ∧ sms ds = true := by
  rw [sm, Bool.and_eq_true] at h
  exact ⟨of_decide_eq_true h.1, h.2⟩
def strEq : PyData → PyData → Bool
  | .str x, .str y => x == y
  | _, _ => false
def regsB : PyData → Bool
  | .tuple [a] => wordB a
  | .tuple [a, b] => wordB a && wordB b && !strEq a b
  | _ => false
end XX

set_option maxRecDepth 100000
set_option maxHeartbeats 4000000
namespace XX
open PySem PySem.Spec PyProof.Rows L2
local macro_rules | `(tactic| walk_at "ao") => `(tactic| (delta Addr at *; omega))
/-! ### lists or tuples, by a truth t: a tuple if it is true -/
theorem same_nw {H : Hp} {q : Addr} {o : HO} (e : H q = none) : Same H (upd H q o) := fun b u hb => by
  rw [upd_ne (ne_of_none hb e)]
  exact hb
def SqA (t : Bool) (K : PySem.W.Frag) (H : Hp) (a : Addr) (xs : List V) : Prop :=
  match t with
  | true => SqT K H a xs
  | false => SqL K H a xs
def IsSA (t : Bool) (h : Heap) (a : Addr) (items : Array Value) : Prop :=
  match t with
  | true => h.IsTuple a items
  | false => h.IsList a items
def IsItA (t : Bool) (h : Heap) (it a : Addr) (i : Nat) : Prop :=
  match t with
  | true => h.IsTupleIter it a i
  | false => h.IsListIter it a i
def itObj (t : Bool) (a : Addr) : Obj :=
  match t with
  | true => { cls := .type "tuple_iterator", data := .fields #[.ref a, .int 0 0] }
  | false => { cls := .type "list_iterator", data := .fields #[.ref a, .int 0 0] }
theorem itObj_is {t : Bool} {h : Heap} {it a : Addr} (g : h.get? it = some (itObj t a)) : IsItA t h it a 0 := by
  cases t
  · exact ⟨_, g, rfl, rfl⟩
  · exact ⟨_, g, rfl, rfl⟩
theorem IsItA.at {t : Bool} {h h' : Heap} {it a : Addr} {i : Nat} (x : IsItA t h it a i) (k : ∀ o, h.get? it = some o → h'.get? it = some o) : IsItA t h' it a i := by
  cases t
  · exact Heap.IsListIter.at (show h.IsListIter it a i from x) k
  · exact Heap.IsTupleIter.at (show h.IsTupleIter it a i from x) k
theorem IsItA.obj {t : Bool} {h : Heap} {it a : Addr} {i : Nat} (x : IsItA t h it a i) : ∃ o vs, h.get? it = some o ∧ o.data = .fields vs := by
  cases t
  · obtain ⟨o, ho, _, hd⟩ := (show h.IsListIter it a i from x)
    exact ⟨o, _, ho, hd⟩
  · obtain ⟨o, ho, _, hd⟩ := (show h.IsTupleIter it a i from x)
    exact ⟨o, _, ho, hd⟩
theorem sqA_its {X : Cx} {pins : List (Addr × Obj)} {σ : L2.St} {H : Hp} {s : Shared} {t : Bool} {a : Addr} {xs : List V} (I : Inv X pins σ H s) (h : SqA t X.K H a xs) : ∃ its : List Value, Vals xs its ∧ IsSA t s.heap a its.toArray ∧ a < s.heap.objs.size := by
  cases t
  · obtain ⟨its, rv, p, _⟩ := I.list (show SqL X.K H a xs from h)
    exact ⟨its, rv, p.isList, p.lt⟩
  · obtain ⟨its, rv, p, _⟩ := I.tuple (show SqT X.K H a xs from h)
    obtain ⟨o, ho, _⟩ := id p
    exact ⟨its, rv, p, Heap.lt_size ho⟩
theorem sqA_inj {X : Cx} {pins : List (Addr × Obj)} {σ : L2.St} {H : Hp} {s : Shared} {t : Bool} {a : Addr} {xs ys : List V} (I : Inv X pins σ H s) (h : SqA t X.K H a xs) (h' : SqA t X.K H a ys) : xs = ys := by
  cases t
  · exact I.list_inj h h'
  · exact I.tuple_inj h h'
theorem beginsA (t : Bool) (a : Addr) (items : Array Value) : Begins (.ref a) (itObj t a) (fun h => IsSA t h a items) := by
  cases t
  · exact begins_list a items
  · exact begins_tuple a items
theorem drawsA {prog : Program} {w : World} {A : Around} (t : Bool) (hh : A.handled = none) (it a : Addr) (hne : a ≠ it) (items : Array Value) :
    Draws prog w A it [it, a] items.size (fun i v => items[i]? = some v) (fun i h => IsItA t h it a i ∧ IsSA t h a items) := by
  cases t
  · exact Draws.list hh it a hne items
  · exact Draws.tuple hh it a hne items
/-! ### enumerate of a list or a tuple -/
theorem enum_newB {v : Value} {o : Obj} {G : Heap → Prop} (B : Begins v o G) : Meets (Builtin.«enumerate.__new__» ⟨[.type "enumerate", v], []⟩) (fun _ R s => G s.heap ∧ R (.ok (.ret (.ref (s.heap.push o).objs.size)))
      { s with heap := (s.heap.push o).push { cls := .type "enumerate", data := .fields #[.none, .bool false, .ref s.heap.objs.size, rawInt 0, .none, .none] } }) :=
  .of_wp fun prog w A R s h => by
    obtain ⟨hp, g, d, tk, os⟩ := s
    obtain ⟨hG, q⟩ := h
    have hsub := sub_enumerate
    have q1 : ∀ {A' : Around} {E' Q' : Value → Shared → Prop}, Q' (.ref hp.objs.size) ⟨hp.push o, g, d, tk, os⟩ → wpAny (model prog w) A' (pyIter v) Q' E' ⟨hp, g, d, tk, os⟩ := fun z => B.iter prog w _ _ ⟨hp, g, d, tk, os⟩ _ hG z
    wp_walk
    refine wpAny_stack_any fun st => wpAny_pure ?_
    split
    · rename_i c _ _ _ _ _
      cases hcc : (c == Value.type "enumerate")
      · wp_walk using q1
        exact ⟨_, rfl, q⟩
      · wp_walk using q1
        exact ⟨_, rfl, q⟩
    · wp_walk using q1
      exact ⟨_, rfl, q⟩
theorem call_enumB {prog : Program} {w : World} {A : Around} {E : Value → Shared → Prop} {s : Shared} {v : Value} {o : Obj} {G : Heap → Prop} {Q : Value → Shared → Prop} (B : Begins v o G) (hG : G s.heap)
    (h : ∀ h', IsEnum h' (s.heap.objs.size + 1) s.heap.objs.size 0 .none → h'.get? s.heap.objs.size = some o → h'.objs.size = s.heap.objs.size + 2 → (∀ b u, s.heap.get? b = some u → h'.get? b = some u) → Q (.ref (s.heap.objs.size + 1)) { s with heap := h' }) :
    wpAny (model prog w) A (call (.type "enumerate") [v]) Q E s := by
  refine callType_new F.called_enumerate (by decide) (F.typeCall_enumerate_1 _) (F.newCall_enumerate_1 _) (fun b => F.args_object_init_2 b _) F.entry_enumerate_new (enum_newB B) ⟨hG, ?_⟩
  have hz : (s.heap.push o).objs.size = s.heap.objs.size + 1 := Heap.size_push ..
  have he := Heap.get?_push_size (s.heap.push o) (o := { cls := .type "enumerate", data := .fields #[.none, .bool false, .ref s.heap.objs.size, rawInt 0, .none, .none] }) rfl
  rw [hz] at he
  show _ ∧ _
  rw [hz]
  refine ⟨⟨_, he, rfl⟩, h _ he (Heap.get?_push_of_some _ (Heap.get?_push_size _ B.free)) ?_ (fun b u x => Heap.get?_push_of_some _ (Heap.get?_push_of_some _ x))⟩
  rw [Heap.size_push, hz]
def IteA (t : Bool) (K : PySem.W.Frag) (a : Addr) : It :=
  ⟨fun i H => ∃ (xs : List V) (x : V), SqA t K H a xs ∧ xs[i]? = some x, fun i H v H' => ∃ D x, v = .ref D ∧ H D = none ∧ H' = upd H D (.tup [.int (i : Nat), x]) ∧ ∀ xs, SqA t K H a xs → xs[i]? = some x, fun i H => ∃ xs : List V, SqA t K H a xs ∧ xs.length = i⟩
theorem turn_enumA {P : Program} {w : World} {K : PySem.W.Frag} {elts : List Expr} {kk : Nat} {tpos : Pos} (t : Bool) (a e it : Addr) (hea : e ≠ a) (hia : a ≠ it) (hei : e ≠ it) :
    Turn P w K (.Tuple elts kk tpos) (IteA t K a) [e, it] e (fun i h => (∃ old, IsEnum h e it ((i : Nat) : Int) old) ∧ IsItA t h it a i) where
  mem := List.mem_cons_self ..
  obj := fun i h st b hb => by
    obtain ⟨⟨old, he⟩, hi⟩ := st
    obtain ⟨o, vs, ho, hd⟩ := hi.obj
    rcases List.mem_cons.mp hb with rfl | hb
    · exact ⟨_, he, fun v q => nomatch q⟩
    · rw [List.mem_singleton.mp hb]
      exact ⟨o, ho, fun v q => by rw [hd] at q; cases q⟩
  keep := fun i h h' st k => by
    obtain ⟨⟨old, he⟩, hi⟩ := st
    exact ⟨⟨old, k e (by simp) _ he⟩, hi.at fun o q => k it (by simp) o q⟩
  item := by
    intro X eP ew eK hc i pins s σ H E I hf st hg
    subst eP ew eK
    obtain ⟨⟨old, he⟩, hit⟩ := st
    obtain ⟨xs, x, hq, hx⟩ := hg
    obtain ⟨its, rv, p, hlt⟩ := sqA_its I hq
    obtain ⟨u, hu, ru⟩ := rv.get hx
    have hel : e < s.heap.objs.size := Heap.lt_size he
    have hil : it < s.heap.objs.size := by
      obtain ⟨o, _, ho, _⟩ := hit.obj
      exact Heap.lt_size ho
    have hni : i < its.toArray.size := by
      rw [List.size_toArray]
      exact (List.getElem?_eq_some_iff.mp hu).1
    have hh : X.A.in1.handled = none := I.ok.hd hc
    refine wpAny_pyNext_enum_itemC (drawsA t hh it a hia its.toArray) he ⟨hit, p⟩ hni hei (by simp [hei, hea]) fun z h' tk hz ho hst hT hsz hk => ?_
    have ez : z = u := by
      rw [List.getElem?_toArray, hu] at hz
      exact (Option.some.inj hz).symm
    subst ez
    refine ⟨_, rfl, wpAny_letOwnedTupleGo_enum (s := { s with heap := h', toks := tk + 1 }) ho fun h'' he' sb => ?_⟩
    have hT2 : h''.get? s.heap.objs.size = some { cls := .type "tuple", data := .seq #[.int i tk, z] } := (sb.2 _ (Nat.ne_of_gt hel)).trans hT
    have new : ObjOk X.prog X.w (upd H s.heap.objs.size (.tup [.int (i : Nat), x])) h'' s.heap.objs.size (.tup [.int (i : Nat), x]) := ⟨by show 2 ≤ sizeLine; decide, [.int i tk, z], .cons ⟨_, rfl⟩ (.cons ru .nil), ⟨_, hT2, rfl, _, rfl⟩⟩
    have I1 : Inv X pins σ (upd H s.heap.objs.size (.tup [.int (i : Nat), x])) { s with heap := h'', toks := tk + 1 } := by
      refine I.turnedNew (ch := [e, it]) (fun b ob hb q => ?_) hf (Nat.le_refl _) new
      have b1 : b ≠ e := fun y => hb (by simp [y])
      have b2 : b ≠ it := fun y => hb (by simp [y])
      exact (sb.2 b b1).trans (hk b ob b1 b2 q)
    refine ⟨.ref s.heap.objs.size, _, I1, rfl, ⟨_, x, rfl, I.hok.fresh (Nat.le_refl _), rfl, fun ys hy => ?_⟩, ⟨⟨z, ?_⟩, hst.1.at fun o q => (sb.2 it (Ne.symm hei)).trans q⟩, fun b hb => ?_⟩
    · rw [sqA_inj I hy hq]
      exact hx
    · have e1 : ((i + 1 : Nat) : Int) = (i : Int) + 1 := by omega
      rw [e1]
      exact he'
    · have hb' : b < s.heap.objs.size := by
        rcases List.mem_cons.mp hb with z | hb
        · rw [z]; exact hel
        · rw [List.mem_singleton.mp hb]; exact hil
      rw [upd_ne (Nat.ne_of_lt hb')]
      exact (hf b hb).1
  done := by
    intro X eP ew eK hc i pins s σ H E I hf st hg
    subst eP ew eK
    obtain ⟨⟨old, he⟩, hit⟩ := st
    obtain ⟨xs, hq, hx⟩ := hg
    obtain ⟨its, rv, p, hlt⟩ := sqA_its I hq
    obtain ⟨f0, f1, f2, f3, f4, f5⟩ := hf it (by simp)
    have hn : its.toArray.size = i := by
      rw [List.size_toArray, ← hx]
      exact rv.length.symm
    have hh : X.A.in1.handled = none := I.ok.hd hc
    subst hn
    refine wpAny_pyNext_enum_endD (drawsA t hh it a hia its.toArray) he ⟨hit, p⟩ fun h' eb => ⟨rfl, ?_⟩
    exact I.turned (t' := s.toks) (fun b o hb q => eb b o hb q) f0 f1 f3 f4 f5
  self := fun A i s Q E st h => by
    obtain ⟨⟨_, he⟩, _⟩ := st
    exact wpAny_pyIter_enum he h
def iEnumA (t : Bool) (K : PySem.W.Frag) (ta : TA) : TI := fun σ H R => ta σ H fun vs H1 => ∃ a xs, vs = [.ref a] ∧ SqA t K H1 a xs ∧ R (IteA t K a) H1
theorem pi_enumA {X : Cx} {x : Expr} {ta : TA} {p pos tpos : Pos} {elts : List Expr} {kk : Nat} (t : Bool) (hg : Gl X "enumerate") (hm : X.mg "enumerate" = none) (ha : PA X [x] ta) (hs : starEach [x] X.env = [(false, eval x X.env)] := by rfl) :
    PI X (.Tuple elts kk tpos) (.Call (.Name "enumerate" p) [x] [] pos) (iEnumA t X.K ta) := by
  refine ⟨fun pins s σ H R I h => ?_⟩
  refine Call_ (ld_blt I hg hm boot_enumerate (PyProof.Rows.callWith_type1 (thn (ha.run pos pins s σ H _ I h) fun us s1 ⟨vs, H1, I1, r1, q1⟩ => ?_) hs rfl))
  obtain ⟨a, xs, rfl, hq, q⟩ := q1
  obtain ⟨its, rv, p', hlt⟩ := sqA_its I1 hq
  cases r1 with
  | cons r rr =>
    cases rr
    cases r
    refine call_enumB (beginsA t a its.toArray) p' fun h' he ho hsz hk => wpAny_pyIter_enum he ?_
    have I2 : Inv X pins σ H1 { s1 with heap := h' } := I1.kept (t' := s1.toks) hk
    refine ⟨s1.heap.objs.size + 1, [s1.heap.objs.size + 1, s1.heap.objs.size], _, _, H1, rfl, I2, turn_enumA t a (s1.heap.objs.size + 1) s1.heap.objs.size (by walk_at "ao") (by walk_at "ao") (by walk_at "ao"), ⟨⟨.none, he⟩, itObj_is ho⟩, fun b hb => ?_, q⟩
    have hle : s1.heap.objs.size ≤ b := by
      rcases List.mem_cons.mp hb with z | hb
      · rw [z]; exact Nat.le_add_right _ _
      · rw [List.mem_singleton.mp hb]; exact Nat.le_refl _
    exact I1.fpOk hle (I1.hok.fresh hle)
theorem walk_enumA {t : Bool} {K : PySem.W.Frag} {a : Addr} {xs : List V} : Walk (IteA t K a) xs.length (fun H => SqA t K H a xs) (YPair (fun i => some (.int (i : Nat))) (fun i => xs[i]?)) := by
  refine ⟨fun i H hi h => ⟨xs, xs[i], h, by simp [hi]⟩, fun H h => ⟨xs, h, rfl⟩, fun i H v H' hi h y => ?_⟩
  obtain ⟨D, x, rfl, hD, rfl, hx⟩ := y
  exact ⟨D, _, x, rfl, hD, rfl, rfl, hx xs h⟩
/-! ### zip of two, each a list or a tuple -/
def ItzA (t u : Bool) (K : PySem.W.Frag) (a b : Addr) : It :=
  ⟨fun i H => ∃ (xs ys : List V) (x y : V), SqA t K H a xs ∧ SqA u K H b ys ∧ xs[i]? = some x ∧ ys[i]? = some y,
    fun i H v H' => ∃ D x y, v = .ref D ∧ H D = none ∧ H' = upd H D (.tup [x, y]) ∧ (∀ xs, SqA t K H a xs → xs[i]? = some x) ∧ ∀ ys, SqA u K H b ys → ys[i]? = some y,
    fun i H => ∃ xs ys : List V, SqA t K H a xs ∧ SqA u K H b ys ∧ xs.length = i ∧ ys.length = i⟩
theorem sepA {z TI TO i1 i2 a b : Addr} (h1 : a < i1) (h2 : b < i1) (e2 : i2 = i1 + 1) (e3 : TI = i1 + 2) (e4 : TO = i1 + 3) (e5 : z = i1 + 4) : ZipSep2 z TI TO i1 i2 [i1, a] [i2, b] := by
  subst e2 e3 e4 e5
  constructor <;> (try simp only [List.mem_cons, List.not_mem_nil, or_false, not_or]) <;> first | exact ⟨by walk_at "ao", by walk_at "ao"⟩ | walk_at "ao" | simp
theorem turn_zipA {P : Program} {w : World} {K : PySem.W.Frag} {elts : List Expr} {kk : Nat} {tpos : Pos} (t u : Bool) {a b i1 : Addr} (h1 : a < i1) (h2 : b < i1) :
    Turn P w K (.Tuple elts kk tpos) (ItzA t u K a b) [i1 + 4, i1 + 2, i1 + 3, i1, i1 + 1] (i1 + 4) (fun i h => IsZip h (i1 + 4) (i1 + 2) (i1 + 3) .none ∧ IsTupOf2 h (i1 + 2) (.ref i1) (.ref (i1 + 1)) ∧ (∃ x y, IsTupOf2 h (i1 + 3) x y) ∧ IsItA t h i1 a i ∧ IsItA u h (i1 + 1) b i) where
  mem := List.mem_cons_self ..
  obj := fun i h st c hc => by
    obtain ⟨hz, hI, ⟨x, y, hO⟩, g1, g2⟩ := st
    obtain ⟨o1, v1, e1, d1⟩ := g1.obj
    obtain ⟨o2, v2, e2, d2⟩ := g2.obj
    simp only [List.mem_cons, List.not_mem_nil, or_false] at hc
    rcases hc with rfl | rfl | rfl | rfl | rfl
    · exact ⟨_, hz, fun v q => nomatch q⟩
    · exact ⟨_, hI, fun v q => nomatch q⟩
    · exact ⟨_, hO, fun v q => nomatch q⟩
    · exact ⟨o1, e1, fun v q => by rw [d1] at q; cases q⟩
    · exact ⟨o2, e2, fun v q => by rw [d2] at q; cases q⟩
  keep := fun i h h' st k => by
    obtain ⟨hz, hI, ⟨x, y, hO⟩, g1, g2⟩ := st
    exact ⟨k _ (by simp) _ hz, k _ (by simp) _ hI, ⟨x, y, k _ (by simp) _ hO⟩, g1.at fun o q => k _ (by simp) o q, g2.at fun o q => k _ (by simp) o q⟩
  item := by
    intro X eP ew eK hc i pins s σ H E I hf st hg
    subst eP ew eK
    obtain ⟨hz, hI, ⟨x0, y0, hO⟩, g1, g2⟩ := st
    obtain ⟨xs, ys, x, y, qx, qy, hx, hy⟩ := hg
    obtain ⟨its, rv, p, _⟩ := sqA_its I qx
    obtain ⟨its2, rv2, p2, _⟩ := sqA_its I qy
    obtain ⟨v, hv, ru⟩ := rv.get hx
    obtain ⟨v2, hv2, ru2⟩ := rv2.get hy
    have hzl : i1 + 4 < s.heap.objs.size := Heap.lt_size hz
    have n1 : i < its.toArray.size := by
      rw [List.size_toArray]
      exact (List.getElem?_eq_some_iff.mp hv).1
    have n2 : i < its2.toArray.size := by
      rw [List.size_toArray]
      exact (List.getElem?_eq_some_iff.mp hv2).1
    have hh : X.A.in1.handled = none := I.ok.hd hc
    refine wpAny_pyNext_zipD2_item (sepA h1 h2 rfl rfl rfl rfl) (drawsA t hh i1 a (by walk_at "ao") its.toArray) (drawsA u hh (i1 + 1) b (by walk_at "ao") its2.toArray) hz hI hO ⟨g1, p⟩ ⟨g2, p2⟩ n1 n2 fun z1 z2 h' tk w1 w2 hz' hO' st1 st2 hT hsz hk => ?_
    have ez : z1 = v := by
      rw [List.getElem?_toArray, hv] at w1
      exact (Option.some.inj w1).symm
    have ez2 : z2 = v2 := by
      rw [List.getElem?_toArray, hv2] at w2
      exact (Option.some.inj w2).symm
    subst ez ez2
    refine ⟨_, rfl, wpAny_letOwnedTupleGo_zip (s := { s with heap := h', toks := tk }) hz' fun h'' z'' sb => ?_⟩
    have hT2 : h''.get? s.heap.objs.size = some { cls := .type "tuple", data := .seq #[z1, z2] } := (sb.2 _ (Nat.ne_of_gt hzl)).trans hT
    have new : ObjOk X.prog X.w (upd H s.heap.objs.size (.tup [x, y])) h'' s.heap.objs.size (.tup [x, y]) := ⟨by show 2 ≤ sizeLine; decide, [z1, z2], .cons ru (.cons ru2 .nil), ⟨_, hT2, rfl, _, rfl⟩⟩
    have I1 : Inv X pins σ (upd H s.heap.objs.size (.tup [x, y])) { s with heap := h'', toks := tk } := by
      refine I.turnedNew (ch := [i1 + 4, i1 + 2, i1 + 3, i1, i1 + 1]) (fun c o hb q => ?_) hf (Nat.le_refl _) new
      simp only [List.mem_cons, List.not_mem_nil, or_false, not_or] at hb
      exact (sb.2 c hb.1).trans (hk c o hb.1 hb.2.2.1 hb.2.2.2.1 hb.2.2.2.2 q)
    have ne : ∀ {c : Addr}, c < i1 + 4 → h''.get? c = h'.get? c := fun {c} l => sb.2 c (by walk_at "ao")
    refine ⟨.ref s.heap.objs.size, _, I1, rfl, ⟨_, x, y, rfl, I.hok.fresh (Nat.le_refl _), rfl, fun l hl => ?_, fun l hl => ?_⟩, ⟨z'', ?_, ⟨z1, z2, ?_⟩, st1.1.at fun o q => ?_, st2.1.at fun o q => ?_⟩, fun c hcm => ?_⟩
    · rw [sqA_inj I hl qx]
      exact hx
    · rw [sqA_inj I hl qy]
      exact hy
    · exact (ne (by walk_at "ao")).trans (hk _ _ (by walk_at "ao") (by walk_at "ao") (by walk_at "ao") (by walk_at "ao") hI)
    · exact (ne (by walk_at "ao")).trans hO'
    · exact (ne (by walk_at "ao")).trans q
    · exact (ne (by walk_at "ao")).trans q
    · have hlt : c < s.heap.objs.size := by
        simp only [List.mem_cons, List.not_mem_nil, or_false] at hcm
        clear I1 new hT2 hT
        rcases hcm with z | z | z | z | z <;> rw [z]
        · exact hzl
        all_goals exact Nat.lt_of_le_of_lt (by first | exact Nat.le_add_right _ _ | exact Nat.add_le_add_left (by decide) _) hzl
      rw [upd_ne (Nat.ne_of_lt hlt)]
      exact (hf c hcm).1
  done := by
    intro X eP ew eK hc i pins s σ H E I hf st hg
    subst eP ew eK
    obtain ⟨hz, hI, ⟨x0, y0, hO⟩, g1, g2⟩ := st
    obtain ⟨xs, ys, qx, qy, lx, ly⟩ := hg
    obtain ⟨its, rv, p, _⟩ := sqA_its I qx
    obtain ⟨its2, rv2, p2, _⟩ := sqA_its I qy
    have n1 : i = its.toArray.size := by
      rw [List.size_toArray, ← lx]
      exact rv.length
    have n2 : i = its2.toArray.size := by
      rw [List.size_toArray, ← ly]
      exact rv2.length
    have hh : X.A.in1.handled = none := I.ok.hd hc
    refine wpAny_pyNext_zipD2_end (sepA h1 h2 rfl rfl rfl rfl) (drawsA t hh i1 a (by walk_at "ao") its.toArray) (drawsA u hh (i1 + 1) b (by walk_at "ao") its2.toArray) hz hI hO ⟨g1, p⟩ ⟨g2, p2⟩ (by walk_at "ao") (by walk_at "ao") (.inl n1) fun h' tk hk => ⟨rfl, ?_⟩
    refine I.turnedL (ch := [i1 + 4, i1 + 2, i1 + 3, i1, i1 + 1]) (fun c o hb q => ?_) hf
    simp only [List.mem_cons, List.not_mem_nil, or_false, not_or] at hb
    exact hk c o hb.1 hb.2.2.1 hb.2.2.2.1 hb.2.2.2.2 q
  self := fun A i s Q E st h => wpAny_pyIter_zip st.1 h
def iZipB (t u : Bool) (K : PySem.W.Frag) (ta : TA) : TI := fun σ H R => ta σ H fun vs H1 => ∃ a b xs ys, vs = [.ref a, .ref b] ∧ SqA t K H1 a xs ∧ SqA u K H1 b ys ∧ R (ItzA t u K a b) H1
theorem pi_zipB {X : Cx} {x x2 : Expr} {ta : TA} {p pos tpos : Pos} {elts : List Expr} {kk : Nat} (t u : Bool) (hg : Gl X "zip") (hm : X.mg "zip" = none) (ha : PA X [x, x2] ta)
    (hs : starEach [x, x2] X.env = (false, eval x X.env) :: starEach [x2] X.env := by rfl) (hpl : (backTo pos (starEach [x2] X.env)).any (·.1) = false := by rfl) : PI X (.Tuple elts kk tpos) (.Call (.Name "zip" p) [x, x2] [] pos) (iZipB t u X.K ta) := by
  refine ⟨fun pins s σ H R I h => ?_⟩
  refine Call_ (ld_blt I hg hm PyProof.Rows.boot_zip (PyProof.Rows.callWith_type1 (thn (ha.run pos pins s σ H _ I h) fun us s1 ⟨vs, H1, I1, r1, q1⟩ => ?_) hs hpl))
  obtain ⟨a, b, xs, ys, rfl, qx, qy, q⟩ := q1
  obtain ⟨its, rv, p1, l1⟩ := sqA_its I1 qx
  obtain ⟨its2, rv2, p2, l2⟩ := sqA_its I1 qy
  cases r1 with
  | cons r rr =>
    cases rr with
    | cons r' rr =>
      cases rr
      cases r
      cases r'
      refine zip_begins2 (beginsA t a its.toArray) (beginsA u b its2.toArray) p1 p2 fun h' hz hI hO k1 k2 hsz hk => wpAny_pyIter_zip hz ?_
      have I2 : Inv X pins σ H1 { s1 with heap := h' } := I1.kept (t' := s1.toks) hk
      refine ⟨s1.heap.objs.size + 4, _, _, _, H1, rfl, I2, turn_zipA t u l1 l2, ⟨hz, hI, ⟨_, _, hO⟩, itObj_is k1, itObj_is k2⟩, fun c hcm => ?_, q⟩
      have hle : s1.heap.objs.size ≤ c := by
        simp only [List.mem_cons, List.not_mem_nil, or_false] at hcm
        walk_at "ao"
      exact I1.fpOk hle (I1.hok.fresh hle)
theorem walk_zipB {t u : Bool} {K : PySem.W.Frag} {a b : Addr} {xs ys : List V} (e : xs.length = ys.length) : Walk (ItzA t u K a b) xs.length (fun H => SqA t K H a xs ∧ SqA u K H b ys) (YPair (fun i => xs[i]?) (fun i => ys[i]?)) := by
  refine ⟨fun i H hi h => ⟨xs, ys, xs[i], ys[i], h.1, h.2, by simp [hi], by simp [e ▸ hi]⟩, fun H h => ⟨xs, ys, h.1, h.2, rfl, e.symm⟩, fun i H v H' hi h y => ?_⟩
  obtain ⟨D, x, y, rfl, hD, rfl, hx, hy⟩ := y
  exact ⟨D, x, y, rfl, hD, rfl, hx xs h.1, hy ys h.2⟩
/-! ### comprehensions whose turns only bring new things: turn i gives u i, or nothing -/
theorem same_mut {H G : Hp} {D : Addr} {o : HO} (h : Same H G) (e : H D = none) : Same H (upd G D o) := fun b u hb => by
  rw [upd_ne (ne_of_none hb e)]
  exact h b u hb
theorem range_filterMap (u : Nat → Option V) (i : Nat) : (List.range (i + 1)).filterMap u = (List.range i).filterMap u ++ (u i).toList := by
  rw [List.range_succ, List.filterMap_append]
  congr 1
theorem lcw_gen {J : It} {n : Nat} {G : Hp → Prop} {Y : Nat → Hp → V → Hp → Prop} (w : Walk J n G Y) {g : TG} {tt : TT} {te : TE} {vs : List Nat} {σ : L2.St} {H : Hp} {Q : VK} (u : Nat → Option V) (hn : n ≤ 1000) (hG : ∀ H', Same H H' → G H')
    (hs : ∀ (i : Nat) (x : V) (G1 G2 : Hp) (Nx : Hp → Prop) (Q' : VK), i < n → Same H G1 → Y i G1 x G2 → (∀ y H4, u i = some y → Same G1 H4 → Q' y H4) → (u i = none → ∀ H3, Same G1 H3 → Nx H3) →
      g x (wipe σ vs) G2 fun σ2 H2 => wipe σ2 vs = wipe σ vs ∧ tt σ2 H2 fun b H3 => if b = true then te σ2 H3 Q' else Nx H3)
    (hd : ∀ D G', Same H G' → H D = none → G' D = some (.lst ((List.range n).filterMap u)) → Q (.ref D) G') : LcW J g tt te vs σ H Q := by
  have ll : ∀ i, ((List.range i).filterMap u).length ≤ i := fun i => by
    have e := List.length_filterMap_le u (List.range i)
    rw [List.length_range] at e
    exact e
  refine lcw_it w (fun D i G' => Same H G' ∧ G' D = some (.lst ((List.range i).filterMap u))) (fun D hD => ⟨same_nw hD, upd_same⟩) (fun D i G' _ h => hG G' h.1) (fun D i x G1 G2 hD hi hP hy => ?_) fun D G' hD hP => hd D G' hP.1 hD hP.2
  refine hs i x G1 G2 _ _ hi hP.1 hy (fun y H4 hu h4 => ?_) fun hu H3 h3 => ?_
  · refine ⟨_, h4 D _ hP.2, ?_, same_mut (hP.1.trans h4) hD, ?_⟩
    · have e1 := ll i
      have e2 := sizeLine_eq
      omega
    · rw [upd_same, range_filterMap, hu, Option.toList_some]
  · refine ⟨hP.1.trans h3, ?_⟩
    rw [h3 D _ hP.2, range_filterMap, hu, Option.toList_none, List.append_nil]
end XX

set_option maxRecDepth 100000
set_option maxHeartbeats 4000000
namespace XX
open PySem PySem.Spec PyProof.Rows L2
/-! ### list(text) -/
theorem paired_of {α β : Type} {F : α → β → Prop} : ∀ {l : List α} {m : List β}, l.length = m.length → (∀ (i : Nat) a b, l[i]? = some a → m[i]? = some b → F a b) → Paired F l m
  | [], [], _, _ => .nil
  | [], _ :: _, e, _ => nomatch e
  | _ :: _, [], e, _ => nomatch e
  | a :: l, b :: m, e, h => .cons (h 0 a b rfl rfl) (paired_of (Nat.succ.inj e) fun i a b h1 h2 => h (i + 1) a b h1 h2)
def rListStr : List V → Hp → VK → Prop := fun xs H Q => ∃ z : Str, xs = [.str z] ∧ z.length ≤ sizeLine ∧ ∀ l, H l = none → Q (.ref l) (upd H l (.lst (z.cps.toList.map fun c => V.str ⟨#[c]⟩)))
theorem call_listStr {X : Cx} (hc : X.calm = true) : CallR X (.type "list") rListStr := by
  intro pins s σ H xs us Q I r h
  obtain ⟨z, rfl, hz, q⟩ := h
  obtain ⟨u, rfl, t, rfl⟩ := vals1 r
  refine call_list_str (show X.A.handled = none from I.ok.hd hc) z t (fun h' tk acc' c' hk hS hi => ?_) hz
  have hv : Vals (z.cps.toList.map fun c => V.str ⟨#[c]⟩) acc'.toList := by
    refine paired_of ?_ fun i a b h1 h2 => ?_
    · rw [List.length_map, Array.length_toList, Array.length_toList, hi.1]
    · rw [List.getElem?_map] at h1
      obtain ⟨c, hc, rfl⟩ := Option.map_eq_some_iff.mp h1
      rw [Array.getElem?_toList] at hc h2
      obtain ⟨c2, u, e1, e2⟩ := hi.2 i b h2
      rw [hc] at e1
      cases e1
      exact ⟨u, e2⟩
  have ok : ObjOk X.prog X.w (upd H s.heap.objs.size (.lst (z.cps.toList.map fun c => V.str ⟨#[c]⟩))) h' s.heap.objs.size (.lst (z.cps.toList.map fun c => V.str ⟨#[c]⟩)) := by
    refine ⟨?_, acc'.toList, c', hv, hS⟩
    rw [List.length_map]
    exact hz
  exact ⟨.ref s.heap.objs.size, _, I.laid (t' := tk) hk (Nat.le_refl _) ok, rfl, q _ (I.hok.fresh (Nat.le_refl _))⟩
end XX

set_option maxRecDepth 100000
set_option maxHeartbeats 4000000
namespace XX
open PySem PySem.Spec PyProof.Rows L2
/-! ### data, or an empty dict -/
def DpE (K : PySem.W.Frag) (H : Hp) (v : V) (d : PyData) : Prop := Dp K H v d ∨ (d = .dict [] ∧ ∃ a, v = .ref a ∧ H a = some (.dK []))
theorem ty_dpE {K : PySem.W.Frag} {H : Hp} {v : V} {d : PyData} (h : DpE K H v d) : TyX K H v (.type (tyOf d)) := by
  rcases h with h | ⟨rfl, a, rfl, h⟩
  · exact ty_dp h
  · exact .base (.dK h)
def rIsE2 (T U : String) (K : PySem.W.Frag) : List V → Hp → VK → Prop := fun xs H Q => ∃ (x : V) (tp : Addr) (d : PyData), xs = [x, .ref tp] ∧ H tp = some (.tup [.ty T, .ty U]) ∧ DpE K H x d ∧ Q (.bl (isTy (tyOf d) T || isTy (tyOf d) U)) H
theorem call_isE2 {X : Cx} {T U : String} (hT : knownTy T) (hU : knownTy U) : CallR X (.builtin "isinstance") (rIsE2 T U X.K) := CallR.imp call_isiT fun xs H Q ⟨x, tp, d, e, ht, h, q⟩ => ⟨x, tp, _, _, [.type T, .type U], _, e, ht, .cons (.ty _) (.cons (.ty _) .nil), ty_dpE h, kit_is2 d hT hU, q⟩
/-! ### a new instance of an own class, by keywords, where the call may raise at the slots -/
def tMakeS (C : Addr) (n m : Nat) (sp : Sp) (gV : List V → List V → List V) (E : L2.St → XK) (t tk : TA) : TE := fun σ H Q => t σ H fun vs H1 => tk σ H1 fun zs H2 => vs.length = n ∧ zs.length = m ∧
  ∀ x dx, H2 x = none → H2 dx = none → dx ≠ x → sp (gV (.ref x :: vs) zs) (upd (upd H2 dx (.own x)) x (.ins C dx [])) (fun v H3 => v = .non ∧ Q (.ref x) H3) (E σ)
section
variable {X : Cx} {CX : CXT} {k n : Nat} {f C : Addr} {fd : FuncData} {ps ks : List Str} {sp : Sp} {E : L2.St → XK} {x : Str} {p pos : Pos} {e : Expr} {es : List Expr} {kws : List Keyword} {t tk : TA} {g : List Value → List Value → List Value} {gV : List V → List V → List V}
theorem run_makeS {pins : List (Addr × Obj)} {σ : L2.St} {H : Hp} {s : Shared} {Q : VK} {us ws : List Value} {vs zs : List V} (M : Mk X.K C f) (F : FnOk X.prog X.w X.K X.mg X.base CX k f fd ps sp) (hr : Room (k + 1) X.A) (hb : KBn X.K fd ps (n + 1) ks g gV)
    (hx : PassesAt CX X σ (E σ)) (I : Inv X pins σ H s) (r : Vals vs us) (rz : Vals zs ws) (l1 : vs.length = n) (l2 : zs.length = ks.length)
    (h : ∀ x dx, H x = none → H dx = none → dx ≠ x → sp (gV (.ref x :: vs) zs) (upd (upd H dx (.own x)) x (.ins C dx [])) (fun v H2 => v = .non ∧ Q (.ref x) H2) (E σ))
    (hfr : ∀ (pins : List (Addr × Obj)) (s : Shared) (H' : Hp) (e : Value) (s' : Shared), Inv X pins σ H' s → CX X.stack H' s (E σ) e s' → X.xe e s') :
    wpAny (model X.prog X.w) X.A (call (.ref C) us (ks.zip ws)) (EP X pins σ Q) X.xe s := by
  have fr : ∀ {b : Nat}, s.heap.objs.size ≤ b → H b = none := fun hle => I.hok.fresh hle
  have hq := h (s.heap.objs.size + 1) s.heap.objs.size (fr (Nat.le_succ _)) (fr (Nat.le_refl _)) (Nat.ne_of_lt (Nat.lt_succ_self _))
  have I2 := Inv.made (C := C) I
  have r2 := hb.rel (Paired.cons (F := RelV) (show RelV (.ref (s.heap.objs.size + 1)) (Value.ref (s.heap.objs.size + 1)) from rfl) r) rz
  have lu : (Value.ref (s.heap.objs.size + 1) :: us).length = n + 1 := congrArg Nat.succ (r.length.symm.trans l1)
  have to := hb.to _ _ ws I2.kIn lu (rz.length.symm.trans l2)
  have run := F.run _ X.stack _ _ ⟨Value.ref (s.heap.objs.size + 1) :: us, ks.zip ws⟩ _ _ _ (E σ) (hr.make C us (ks.zip ws)) (I2.env0.make C us (ks.zip ws)) to r2 hq
  refine wpAny_call (make_map (f := f) I.kIn M.makes M.init (beq_iff_eq.mp M.fn) (codeAny_mono run fun rr s' z => ?_))
  match rr, z with
  | .error er, z => exact hfr pins _ _ er s' I2 z
  | .ok (.ret u), z =>
    obtain ⟨v, H', I3, rv, ev, q3⟩ := I2.after z
    subst ev
    exact ⟨rv, ⟨.ref (s.heap.objs.size + 1), H', I3, rfl, q3⟩⟩
  | .ok .next, z => exact False.elim z
  | .ok .brk, z => exact False.elim z
  | .ok .cont, z => exact False.elim z
theorem pe_makeS (M : Mk X.K C f) (F : FnOk X.prog X.w X.K X.mg X.base CX k f fd ps sp) (hr : Room (k + 1) X.A) (hg : Gl X x) (hm : X.mg x = some (.ref C)) (hb : KBn X.K fd ps (n + 1) ks g gV) (hx : ∀ σ, PassesAt CX X σ (E σ)) (ha : PA X (e :: es) t) (hkw : PK X kws tk)
    (h1 : (backToKw pos (keywordEach kws X.env)).all (·.1.isSome) = true := by rfl) (h2 : (backToKw pos (keywordEach kws X.env)).filterMap (·.1) = ks := by rfl) (h3 : (x == ("__debug__" : Str)) = false := by decide)
    (h4 : starEach (e :: es) X.env = (false, eval e X.env) :: starEach es X.env := by rfl) (h5 : ((backTo pos (starEach (e :: es) X.env)).any (·.1) || (backToKw pos (keywordEach kws X.env)).any (·.1.isNone)) = false := by rfl) :
    PE X (.Call (.Name x p) (e :: es) kws pos) (tMakeS C n ks.length sp gV E t tk) := by
  refine ⟨fun pins s σ H Q I h => wpAny_Call_Name_kw (ld_glob I hg hm ?_ h3)⟩
  refine PySem.W.callWith_KW (h₀ := X.base) I.ok.mod.kin M.kp h1 (thn (ha.run pos pins s σ H _ I h) fun us s1 ⟨vs, H1, I1, r, q⟩ => ?_) h5 h4
  refine thn (hkw.run pos pins s1 σ H1 _ I1 q) fun ws s2 ⟨zs, H2, I2, rz, l1, l2, q2⟩ => ⟨I2.kIn, ?_⟩
  rw [h2]
  exact run_makeS M F hr hb (hx σ) I2 r rz l1 l2 q2 fun pins s H' er s' I z => hx σ pins H' s er s' I z
end
end XX

set_option maxRecDepth 100000
set_option maxHeartbeats 4000000
namespace XX
open PySem PySem.Spec PyProof.Rows L2
/-! ### len(set(..)) of a tuple of texts -/
/-- what is in the set behind the first i texts, and how many -/
def metS (xs : List Str) : Nat → (Str → Bool) × Nat
  | 0 => (fun _ => false, 0)
  | i + 1 => ((fun k => (metS xs i).1 k || decide (k = xs.getD i Str.empty)), if (metS xs i).1 (xs.getD i Str.empty) then (metS xs i).2 else (metS xs i).2 + 1)
theorem metS_le (xs : List Str) : ∀ i, (metS xs i).2 ≤ i
  | 0 => Nat.le_refl 0
  | i + 1 => by
    have e := metS_le xs i
    unfold metS
    dsimp only
    by_cases c : (metS xs i).1 (xs.getD i Str.empty) = true
    · rw [if_pos c]
      omega
    · rw [if_neg c]
      omega
section
variable {prog : Program} {w : World} {A : Around} {R : Result → Shared → Prop} {I : Addr} {fp wr : List Addr} {G : Array GenState → Array GenState → Prop} {n : Nat} {P : Nat → Value → Prop} {St : Nat → Shared → Prop}
theorem loopSt (W : WalksS prog w A.in1 I fp wr G n P St) (D : Addr) (nD : D ∉ fp) (xs : List Str) (bn : n + 1 < scanBound) (val : ∀ i v, P i v → ∃ t, v = .str (xs.getD i Str.empty) t) :
    ∀ (k i : Nat) (s : Shared), n - i = k → i ≤ n → St i s → s.heap.SetOf (PySem.strKind prog w) D (metS xs i).1 (metS xs i).2 →
      (∀ s', Moved (D :: wr) G s s' → s'.heap.SetOf (PySem.strKind prog w) D (metS xs n).1 (metS xs n).2 → R (.ok (.ret .none)) s') → codeAny (model prog w) A (.builtin "set.update.loop" ⟨[.ref D, .ref I], []⟩) R s := by
  have nw : D ∉ wr := fun h => nD (W.sub _ h)
  have sb : ∀ b ∈ wr, b ∈ D :: wr := fun b h => List.mem_cons_of_mem _ h
  have stays : ∀ {s s' : Shared} {S : Str → Bool} {c : Nat}, Moved wr G s s' → s.heap.SetOf (PySem.strKind prog w) D S c → s'.heap.SetOf (PySem.strKind prog w) D S c := fun m h => by
    obtain ⟨o, es, ep, tb, ho, r⟩ := h
    exact ⟨o, es, ep, tb, m.heap D _ nw ho, r⟩
  intro k
  induction k with
  | zero =>
    intro i s ek le st hS q
    obtain rfl : i = n := by omega
    refine codeAny_builtin PyProof.Rows.F.entry_set_update_loop (by
      rw [Around.under_plainId PyProof.Rows.F.plain_set_update_loop _]
      refine wpAny_bind (m := pyNext (.ref I)) (W.done s _ _ st fun s' m => ?_)
      exact wpAny_pure (q s' (m.mono sb) (stays m hS)))
  | succ k ih =>
    intro i s ek le st hS q
    have lt : i < n := by omega
    refine codeAny_builtin PyProof.Rows.F.entry_set_update_loop ?_
    rw [Around.under_plainId PyProof.Rows.F.plain_set_update_loop _]
    refine wpAny_bind (m := pyNext (.ref I)) (W.item i s _ _ lt st fun v s' pv st' m => ?_)
    obtain ⟨t, rfl⟩ := val i v pv
    have h1 := stays m hS
    refine wpAny_bind (m := holding [Value.str (xs.getD i Str.empty) t] (setAdd D (.str (xs.getD i Str.empty) t))) (wpAny_holding ?_)
    unfold setAdd
    refine wpAny_holding (wpAny_bind ((PySem.strKind prog w).pyHash (k := xs.getD i Str.empty) (strKind_is _ _ _ _) ?_))
    have room : (metS xs i).2 + 1 < scanBound := by
      have e := metS_le xs i
      omega
    refine wpAny_setAddHashed_of (knd := PySem.strKind prog w) (s := { s' with toks := s'.toks + 1 }) (strKind_is _ _ _ _) rfl h1 room fun h' bt h2 => ?_
    have ne : ∀ {b : Addr}, b ≠ D → h'.get? b = s'.heap.get? b := fun {b} nb => bt.2 b nb
    refine wpAny_pure ⟨plainId_quiet PyProof.Rows.F.plain_set_update_loop _, ih (i + 1) _ (by omega) lt ?_ h2 fun s2 m2 q2 => ?_⟩
    · refine W.frame _ s' _ _ st' (Nat.le_succ _) fun b mb o e => ?_
      rw [ne fun z => nD (by rw [← z]; exact mb)]
      exact e
    · refine q s2 (Moved.trans W.gtrans ((m.mono sb).then_heap (Nat.le_succ _) fun b o nb e => ?_) m2) q2
      rw [ne fun z => nb (by rw [z]; exact List.mem_cons_self)]
      exact e
end
section
variable {prog : Program} {w : World} {A : Around} {E : Value → Shared → Prop} {s : Shared}
theorem call_setSt {l : Addr} {items : Array Value} {xs : List Str} {Q : Value → Shared → Prop} (hh : A.handled = none) (hl : s.heap.IsTuple l items) (hi : PyProof.Rows.StrsAre items.toList xs) (hn : items.size + 1 < scanBound)
    (h : ∀ (h' : Heap) (tk : Nat), h'.SetOf (PySem.strKind prog w) s.heap.objs.size (metS xs items.size).1 (metS xs items.size).2 → (∀ b o, b < s.heap.objs.size → s.heap.get? b = some o → h'.get? b = some o) → Q (.ref s.heap.objs.size) { s with heap := h', toks := tk }) :
    wpAny (model prog w) A (call (.type "set") [.ref l]) Q E s := by
  obtain ⟨c, tl, mro⟩ := PySem.F.called_set.mro
  have f1 := PySem.F.called_set.made
  have f2 := PySem.F.called_set.sub
  have f3 := PySem.F.called_set.notType
  have f4 := PySem.F.called_set.canCreate
  have f5 := PySem.F.typeCall_set_1 (.ref l)
  refine wpAny_call (codeAny_of_tree (by
    show wpAny _ _ (callAny (.type "set") _) _ _ _
    refine wpAny_pure ⟨Code.quiet_builtin _ (by decide +kernel), codeAny_builtin PySem.F.entry_type_call ?_⟩
    rw [Around.under_plain (weight_type_call_type "set" [.ref l] []) rfl]
    repeat (any_goals (first | assumption | wp_step))
    refine codeAny_mono (code_set_new_1 (.ref l) (E := E) (Q₁ := fun ob s₁ => ∃ q : Bool, ob = .ref s.heap.objs.size ∧ s₁ = { s with heap := s.heap.push { cls := .type "set", dict := none, data := .set #[] 0 (.fresh 0 0 q) } }) fun q => ⟨q, rfl, rfl⟩) fun r s₁ hr => ?_
    match r, hr with
    | .error e, hr => exact hr
    | .ok .next, hr => exact hr.elim
    | .ok .brk, hr => exact hr.elim
    | .ok .cont, hr => exact hr.elim
    | .ok (.ret ob), ⟨q, eo, es⟩ =>
      subst eo es
      have g0 : (s.heap.push { cls := .type "set", dict := none, data := .set #[] 0 (.fresh 0 0 q) }).get? s.heap.objs.size = some { cls := .type "set", dict := none, data := .set #[] 0 (.fresh 0 0 q) } := Heap.get?_push_size _ rfl
      have ty : Shared.TypeIs { s with heap := s.heap.push { cls := .type "set", dict := none, data := .set #[] 0 (.fresh 0 0 q) } } (.ref s.heap.objs.size) "set" := ⟨_, g0, rfl⟩
      have i1 := PySem.F.called_set.init.lookup
      have i2 := PySem.F.called_set.init.bind (.ref s.heap.objs.size)
      repeat (any_goals (first | assumption | wp_step))
      refine codeAny_mono (codeAny_call_builtin (R := wants (fun r s₂ => r = .none ∧ ∃ h' tk, s₂ = { s with heap := h', toks := tk } ∧ h'.SetOf (PySem.strKind prog w) s.heap.objs.size (metS xs items.size).1 (metS xs items.size).2 ∧
          (∀ b o, b < s.heap.objs.size → s.heap.get? b = some o → h'.get? b = some o)) E) PySem.F.called_set.init.plain PySem.F.entry_set_init (check_set_init_1 ty ?_)) fun r₂ s₂ hr₂ => ?_
      · obtain ⟨⟨oc, od, odt, osl⟩, hol, hcl, nl, hdl⟩ := hl
        simp only at hcl hdl
        subst hcl hdl
        have g1 : (s.heap.push { cls := .type "set", dict := none, data := .set #[] 0 (.fresh 0 0 q) }).get? l = some { cls := .type "tuple", dict := od, data := .seq items nl, slots := osl } := Heap.get?_push_of_some _ hol
        have s1 := PySem.F.sub_tuple_set
        have s2 := PySem.F.sub_tuple_frozenset
        have s3 : (Value.type "tuple" == Value.type "dict") = false := by decide
        have t1 : (s.heap.push { cls := .type "set", dict := none, data := .set #[] 0 (.fresh 0 0 q) }).IsTuple l items := ⟨_, g1, rfl, nl, rfl⟩
        unfold Builtin.«set.__init__» noKeywords Builtin.Frozenset.updateFrom
        generalize hPI : pyIter = PI
        wp_walk
        subst hPI
        refine wpAny_pyIter_tuple t1 (wpAny_bind (wpAny_runValue ?_))
        have lS : l < s.heap.objs.size := Heap.lt_size hol
        have zp : (s.heap.push { cls := .type "set", dict := none, data := .set #[] 0 (.fresh 0 0 q) }).objs.size = s.heap.objs.size + 1 := Heap.size_push ..
        have h3 : A.in1.in1.in1.handled = none := by simp [hh]
        have nI : l ≠ (s.heap.push { cls := .type "set", dict := none, data := .set #[] 0 (.fresh 0 0 q) }).objs.size := by
          rw [zp]
          exact Nat.ne_of_lt (Nat.lt_succ_of_lt lS)
        have nf : s.heap.objs.size ∉ [(s.heap.push { cls := .type "set", dict := none, data := .set #[] 0 (.fresh 0 0 q) }).objs.size, l] := by
          rw [zp]
          simp only [List.mem_cons, List.not_mem_nil, or_false, not_or]
          exact ⟨Nat.ne_of_lt (Nat.lt_succ_self _), Nat.ne_of_gt lS⟩
        refine loopSt ((Walks.tuple h3 _ l nI items).toS) s.heap.objs.size nf xs hn (fun i v hv => SS.strs_at hi i v (by rw [Array.getElem?_toList]; exact hv)) (items.size - 0) 0 _ (by omega) (Nat.zero_le _) ⟨⟨_, Heap.get?_push_size _ rfl, rfl, rfl⟩, t1.push _⟩ ?_ ?_
        · have g2 : ((s.heap.push { cls := .type "set", dict := none, data := .set #[] 0 (.fresh 0 0 q) }).push { cls := .type "tuple_iterator", data := .fields #[.ref l, .int 0 0] }).get? s.heap.objs.size = some { cls := .type "set", dict := none, data := .set #[] 0 (.fresh 0 0 q) } := Heap.get?_push_of_some _ g0
          exact SetOf_congr ((setObjOf_fresh (knd := PySem.strKind prog w) q).setOf g2 (by unfold scanBound; omega)) (fun _ => rfl) rfl
        · rintro ⟨h', g', d', tk', os'⟩ m hS
          obtain rfl : g' = s.gens := m.gens
          obtain rfl : d' = s.drawn := m.drawn
          obtain rfl : os' = s.os := m.os
          show wpAny _ _ _ _ _ _
          refine wpAny_pure ?_
          show wpAny _ _ (ret Value.none) _ _ _
          refine wpAny_pure ⟨rfl, h', tk', rfl, hS, fun b o hb e => ?_⟩
          refine m.heap b o ?_ (Heap.get?_push_of_some _ (Heap.get?_push_of_some _ e))
          rw [zp]
          simp only [List.mem_cons, List.not_mem_nil, or_false, not_or]
          exact ⟨Nat.ne_of_lt hb, Nat.ne_of_lt (Nat.lt_succ_of_lt hb)⟩
      · match r₂, hr₂ with
        | .error e, hr₂ => exact hr₂
        | .ok .next, hr₂ => exact hr₂.elim
        | .ok .brk, hr₂ => exact hr₂.elim
        | .ok .cont, hr₂ => exact hr₂.elim
        | .ok (.ret r), ⟨er, h', tk, es, hS, hk⟩ =>
          subst er es
          repeat (any_goals (first | assumption | wp_step))
          exact h _ _ hS hk))
end
end XX

set_option maxRecDepth 100000
set_option maxHeartbeats 4000000
namespace XX
open PySem PySem.Spec PyProof.Rows L2
def tLenSetS (K : PySem.W.Frag) (ta : TE) : TE := fun σ H Q => ta σ H fun x H1 => ∃ (l : Addr) (xs : List Str), x = .ref l ∧ SqT K H1 l (xs.map V.str) ∧ xs.length ≤ 1000 ∧ Q (.int ((metS xs xs.length).2 : Nat)) H1
theorem pe_lenSetS {X : Cx} {a : Expr} {ta : TE} {p p2 q pos : Pos} (hc : X.calm = true) (hg : Gl X "len") (hm : X.mg "len" = none) (hg2 : Gl X "set") (hm2 : X.mg "set" = none) (ha : PE X a ta) (na : starEach [a] X.env = (false, eval a X.env) :: starEach [] X.env := by rfl) :
    PE X (.Call (.Name "len" p) [.Call (.Name "set" p2) [a] [] q] [] pos) (tLenSetS X.K ta) := by
  refine ⟨fun pins s σ H Q I h => Call_ (ld_blt I hg hm boot_len (callWith_builtin1 (args_cons (Call_ (ld_blt I hg2 hm2 boot_set ?_)) rfl) rfl rfl))⟩
  refine callWith_type1 (args_cons (thn (ha.run pins s σ H _ I h) fun v s1 ⟨x, H1, I1, r1, q1⟩ => args_nil ?_) na) na rfl
  obtain ⟨l, xs, rfl, hq, h1, q1⟩ := q1
  cases r1
  obtain ⟨its, r, pl, hz⟩ := I1.tuple hq
  have el : its.toArray.size = xs.length := by rw [List.size_toArray, ← r.length, List.length_map]
  refine call_setSt (I1.ok.hd hc) pl (by simpa using strsAre_of r) (by rw [el]; unfold scanBound; omega) fun h' tk hS hk => args_nil ?_
  rw [el] at hS
  have I2 : Inv X pins σ H1 { s1 with heap := h', toks := tk } := I1.kept fun b o e => hk b o (Heap.lt_size e) e
  obtain ⟨o, es, ep, t, ho, hex, hd, _, _, _, hf, hn⟩ := hS
  have le := metS_le xs xs.length
  exact call_len_set ho hex hd hf (by rw [hn]; omega) ⟨.int (metS xs xs.length).2, H1, I2.tok _, ⟨_, by rw [hn]⟩, q1⟩
theorem metS_one (a : Str) : (metS [a] [a].length).2 = 1 := rfl
theorem metS_two (a b : Str) : (metS [a, b] [a, b].length).2 = if a = b then 1 else 2 := by
  show (if (false || decide (b = a)) = true then 1 else 2) = _
  rw [Bool.false_or]
  by_cases c : a = b
  · rw [if_pos c, if_pos (decide_eq_true c.symm)]
  · rw [if_neg c, if_neg]
    intro h
    exact c (of_decide_eq_true h).symm
end XX
namespace XX
open PySem PySem.Spec PyProof.Rows L2
/-- len of a list or tuple, within a comprehension -/
def rLenK (K : PySem.W.Frag) : List V → Hp → VK → Prop := fun xs H Q => ∃ (p : Addr) (ys : List V), xs = [.ref p] ∧ (SqL K H p ys ∨ SqT K H p ys) ∧ Q (.int ys.length) H
/-! ### repr of data, an empty dict too -/
structure Rp (d : PyData) : Prop where
  sh : d.showable = true
  dp : d.depth ≤ 64
  ln : d.shown.length ≤ sizeLine
def rReprE (K : PySem.W.Frag) : List V → Hp → VK → Prop := fun xs H Q => ∃ (v : V) (d : PyData), xs = [v] ∧ DpE K H v d ∧ Rp d ∧ Q (.str d.shown) H
mutual
theorem dp_noDict {K : PySem.W.Frag} {H : Hp} : ∀ (d : PyData) (v : V), Dp K H v d → d.hasDict = false
  | .none, _, _ => rfl
  | .bool _, _, _ => rfl
  | .int _, _, _ => rfl
  | .str _, _, _ => rfl
  | .list ds, _, h => by
    cases h with
    | lst _ ha =>
      rw [PyData.hasDict]
      exact dps_noDict ds _ ha
  | .tuple ds, _, h => by
    cases h with
    | tup _ ha =>
      rw [PyData.hasDict]
      exact dps_noDict ds _ ha
  | .dict _, _, h => nomatch h
theorem dps_noDict {K : PySem.W.Frag} {H : Hp} : ∀ (ds : List PyData) (vs : List V), DpAll K H vs ds → PyData.hasDictAll ds = false
  | [], _, _ => rfl
  | d :: ds, _, h => by
    cases h with
    | cons h1 h2 =>
      rw [PyData.hasDictAll, dp_noDict d _ h1, dps_noDict ds _ h2]
      rfl
end
theorem call_reprE {X : Cx} (hg : X.A.guards = some []) (hu : X.A.units + 80 < cLine) : CallR X (.builtin "repr") (rReprE X.K) := by
  intro pins s σ H xs us Q I r h
  obtain ⟨v, d, rfl, hd, hp, q⟩ := h
  rcases hd with hd | ⟨rfl, a, rfl, ha⟩
  · exact call_reprD hg hu pins s σ H [v] us Q I r ⟨v, d, rfl, hd, hp.sh, dp_noDict d v hd, hp.dp, hp.ln, q⟩
  · obtain ⟨u, rfl, ru⟩ := vals1 r
    cases ru
    obtain ⟨_, hm, vs, kv, hdict⟩ := dk_of I.hok ha
    cases kv
    obtain ⟨o, es, ep, ho, hc, hd2, _, hps, _⟩ := hdict
    have e0 : es.toList = [] := by
      generalize es.toList = l at hps
      cases hps
      rfl
    have rd : Reads s.heap (.ref a) (.dict []) (a :: [] ++ []) := .dict ho hc.1 hd2 (by rw [e0]; exact .nil) (by rw [e0]; exact .nil)
    refine repr_of_reads' rd hp.sh (fun _ hin => ?_) hg (by have := hp.dp; omega) (fun _ _ e => e) (fun h' u tk hk => ⟨.str _, H, I.kept (t' := tk) hk, ⟨_, rfl⟩, q⟩) hp.ln
    have e1 : sysModules = a := by simpa using hin
    rw [e1] at hm
    simp at hm
theorem call_reprEK {X : Cx} (K : PySem.W.Frag) (e : X.K = K) (hg : X.A.guards = some []) (hu : X.A.units + 80 < cLine) : CallR X (.builtin "repr") (rReprE K) := by
  subst e
  exact call_reprE hg hu
end XX

set_option maxRecDepth 100000
set_option maxHeartbeats 4000000
namespace XX
open PySem PySem.Spec PyProof.Rows L2
/-! ### small data can be shown -/
theorem int_len : ∀ i : Fin 1011, (PyData.int ((i.val : Int) - 10)).shown.length ≤ 13 := by decide +kernel
theorem int_show : ∀ i : Fin 1011, (PyData.int ((i.val : Int) - 10)).showable = true := by decide +kernel
theorem int_wt : ∀ i : Fin 1011, (PyData.int ((i.val : Int) - 10)).weight ≤ 11 := by decide +kernel
theorem int_fin {i : Int} (h : sm (.int i) = true) : ∃ j : Fin 1011, i = (j.val : Int) - 10 := by
  rw [sm, Bool.and_eq_true, decide_eq_true_eq, decide_eq_true_eq] at h
  exact ⟨⟨(i + 10).toNat, by omega⟩, by show i = ((i + 10).toNat : Int) - 10; omega⟩
mutual
theorem sm_short : ∀ {d : PyData}, sm d = true → d.intsShort 13 = true
  | .none, _ => rfl
  | .bool _, _ => rfl
  | .int i, h => by
    obtain ⟨j, e⟩ := int_fin h
    rw [e, PyData.intsShort]
    exact decide_eq_true (int_len j)
  | .str _, _ => rfl
  | .list ds, h => by
    rw [PyData.intsShort]
    exact sms_short (sm_lst h).2
  | .tuple ds, h => by
    rw [PyData.intsShort]
    exact sms_short (sm_tup h).2
theorem sms_short : ∀ {ds : List PyData}, sms ds = true → PyData.intsShortAll 13 ds = true
  | [], _ => rfl
  | d :: ds, h => by
    rw [sms, Bool.and_eq_true] at h
    rw [PyData.intsShortAll, sm_short h.1, sms_short h.2]
    rfl
end
mutual
theorem sm_show : ∀ {d : PyData}, sm d = true → d.showable = true
  | .none, _ => rfl
  | .bool _, _ => rfl
  | .int i, h => by
    obtain ⟨j, e⟩ := int_fin h
    rw [e]
    exact int_show j
  | .str _, _ => rfl
  | .list ds, h => by
    rw [PyData.showable]
    exact sms_show (sm_lst h).2
  | .tuple ds, h => by
    rw [PyData.showable]
    exact sms_show (sm_tup h).2
theorem sms_show : ∀ {ds : List PyData}, sms ds = true → PyData.showableAll ds = true
  | [], _ => rfl
  | d :: ds, h => by
    rw [sms, Bool.and_eq_true] at h
    rw [PyData.showableAll, sm_show h.1, sms_show h.2]
    rfl
end
structure Sml (k n : Nat) (d : PyData) : Prop where
  s : sm d = true
  dp : d.depth ≤ k
  wt : d.weight ≤ n
theorem Sml.mono {k n k' n' : Nat} {d : PyData} (h : Sml k n d) (a : k ≤ k') (b : n ≤ n') : Sml k' n' d := ⟨h.s, Nat.le_trans h.dp a, Nat.le_trans h.wt b⟩
theorem Sml.rp {k n : Nat} {d : PyData} (h : Sml k n d) (hk : k ≤ 64) (hn : n ≤ 2 ^ 20) : Rp d := by
  refine ⟨sm_show h.s, Nat.le_trans h.dp hk, ?_⟩
  have lay : PyData.layable0 d = true := by
    unfold PyData.layable0
    rw [sm_lay h.s, decide_eq_true (Nat.le_trans h.dp hk), decide_eq_true (Nat.le_trans h.wt hn)]
    rfl
  have e := shown_le13 lay (sm_short h.s)
  have e2 := sizeLine_eq
  omega
theorem wt_all {n : Nat} : ∀ {ds : List PyData}, (∀ d ∈ ds, d.weight ≤ n) → PyData.weightAll ds ≤ ds.length * (n + 1)
  | [], _ => Nat.zero_le _
  | d :: ds, h => by
    have e1 := wt_all fun e he => h e (List.mem_cons_of_mem d he)
    have e2 := h d (List.mem_cons_self ..)
    rw [PyData.weightAll, List.length_cons, Nat.add_mul, Nat.one_mul]
    omega
theorem dp_all {k : Nat} : ∀ {ds : List PyData}, (∀ d ∈ ds, d.depth ≤ k) → PyData.depthAll ds ≤ k
  | [], _ => Nat.zero_le _
  | d :: ds, h => by
    have e1 := dp_all fun e he => h e (List.mem_cons_of_mem d he)
    have e2 := h d (List.mem_cons_self ..)
    rw [PyData.depthAll]
    omega
theorem Sml.tup {k n m : Nat} {ds : List PyData} (h : ∀ d ∈ ds, Sml k n d) (hl : ds.length ≤ m) (hm : m ≤ 1000) : Sml (k + 1) (m * (n + 1)) (.tuple ds) := by
  refine ⟨?_, ?_, ?_⟩
  · rw [sm, Bool.and_eq_true]
    exact ⟨decide_eq_true (by omega), sms_of fun d hd => (h d hd).s⟩
  · have e := dp_all fun d hd => (h d hd).dp
    show PyData.depthAll ds + 1 ≤ k + 1
    omega
  · have e := wt_all fun d hd => (h d hd).wt
    exact Nat.le_trans e (Nat.mul_le_mul_right _ hl)
theorem Sml.lst {k n m : Nat} {ds : List PyData} (h : ∀ d ∈ ds, Sml k n d) (hl : ds.length ≤ m) (hm : m ≤ 1000) : Sml (k + 1) (m * (n + 1)) (.list ds) := by
  refine ⟨?_, ?_, ?_⟩
  · rw [sm, Bool.and_eq_true]
    exact ⟨decide_eq_true (by omega), sms_of fun d hd => (h d hd).s⟩
  · have e := dp_all fun d hd => (h d hd).dp
    show PyData.depthAll ds + 1 ≤ k + 1
    omega
  · have e := wt_all fun d hd => (h d hd).wt
    exact Nat.le_trans e (Nat.mul_le_mul_right _ hl)
theorem sml_int {i : Int} (h0 : -10 ≤ i) (h1 : i ≤ 1000) : Sml 0 11 (.int i) := by
  have hs : sm (.int i) = true := by
    rw [sm, decide_eq_true h0, decide_eq_true h1]
    rfl
  refine ⟨hs, Nat.le_refl _, ?_⟩
  obtain ⟨j, e⟩ := int_fin hs
  rw [e]
  exact int_wt j
theorem sml_str {z : Str} {n : Nat} (h : z.length ≤ n) (hn : n ≤ 1000) (hc : ∀ c ∈ z.cps.toList, c < 0x110000) : Sml 0 n (.str z) := by
  refine ⟨?_, Nat.le_refl _, h⟩
  rw [sm, Bool.and_eq_true]
  refine ⟨decide_eq_true (by omega), Array.all_eq_true'.mpr fun c m => decide_eq_true (hc c (Array.mem_def.mp m))⟩
end XX

set_option maxRecDepth 100000
set_option maxHeartbeats 4000000
namespace YY
open PySem PySem.Spec PyProof.Rows L2 XX
local macro_rules | `(tactic| walk_at "wp") => `(tactic| simp only [tSeq, tNext, tAsg, tPar, gName, tCB, tCons, tNil, tVar, tC, tOp, tUn, rI, rI0, rU, tLst, tTup, tFor_eq, iRng1, iRng2, iList, iTup, tRet, tRetN, tDrop, tIfS, tTest, tB, tAnd, tOr, tNot, tIf, tAndV, tOrV, tNotV, tCall, tBM, tBM0, rIxL, rIxT, rAppend, tLc_eq, gSub, rSetL, rEq, rNe, rMulS, rIxS, tRevT, gTup, gCons, gNil, wipe, tYes, LcEnd, tDisp, tPairs, tChain, tSl, tPart, tNoPart, rSlT, rSlL, rCatT, rCat, rRep, rIsD, V.ty.injEq, iZipB, tXf, wMA, wAs, rLenK, tLenSetS, rReprE, tVeI, tOst, tErr, tMkO, sFld, tFld, rIsE2, tMakeS, rListStr, tDNotIn, tDGet, rSetD, gSub, iEnumA, rIxD, iStr,
  cxOf_K, cxOf_noxK, L2.start, List.map_cons, List.map_nil, List.length_cons, List.length_nil, Nat.reduceAdd, Nat.reduceSub, List.replicate_succ, List.replicate_zero, List.replicate, List.cons_append, List.nil_append, List.getElem?_cons_zero, List.getElem?_cons_succ, List.set_cons_zero, List.set_cons_succ, List.append_nil,
  Option.some.injEq, V.int.injEq, V.ref.injEq, V.bl.injEq, V.str.injEq, List.cons.injEq, and_true, true_and, exists_eq_left', exists_eq_left, exists_and_left, exists_and_right, exists_const, bool_ite_true, bool_ite_false, dec_ite, ndec_ite, reduceCtorEq, false_or, or_false, false_and, and_false, decide_eq_true_eq, and_assoc, reduceIte, ite_true, ite_false, Int.zero_add])

def topS (i : Nat) : Stmt := PySem.Challenge.pw_partedlanes_k20_sources_made_and_refused.main.body.getD i (.Pass ⟨0, 0, 0, 0⟩)
abbrev sNumbers : Stmt := topS 39
abbrev sPool : Stmt := topS 40
abbrev sDraw : Stmt := topS 41
abbrev sPick : Stmt := topS 42
/-- the built-ins that no name of the module hides -/
structure Bl (mg : Str → Option Value) : Prop where
  n_max : mg "max" = none
  n_range : mg "range" = none
  n_len : mg "len" = none
  n_int : mg "int" = none
section
variable {P : Program} {w : World} {K : PySem.W.Frag} {mg : Str → Option Value} {base : Heap}

/-! ### _law_numbers -/
def nums (ns : List Int) : List V := ns.map V.int
def spNumbers (K : PySem.W.Frag) : Sp := fun vs H Q _ => ∃ (cell salt : Int) (a : Addr) (sz : List Int), vs = [.int cell, .int salt, .ref a] ∧ SqL K H a (nums sz) ∧ 0 ≤ salt ∧ salt ≤ 100000 ∧ sz.length ≤ 1000 ∧ (∀ z ∈ sz, 0 < z ∧ z ≤ 1000) ∧
  ∀ (p : Addr) (ns : List Int), H p = none → ns.length = sz.length → (∀ n ∈ ns, 0 ≤ n) → (∀ (i : Nat) n z, ns[i]? = some n → sz[i]? = some z → n < z) → Q (.ref p) (upd H p (.lst (nums ns)))
theorem scNumbers : FnScope ["cell", "salt", "sizes", "whole", "left", "result", "k", "one"] ["cell", "salt", "sizes"] (defScope sNumbers) := ⟨rfl, rfl, rfl, by decide +kernel, rfl, by decide +kernel, by decide +kernel⟩
theorem c_numbers (D : Def K mg "_law_numbers" sNumbers ["cell", "salt", "sizes"]) (T : Bl mg) : FnC P w K mg base CX0 1 "_law_numbers" ["cell", "salt", "sizes"] (spNumbers K) := by
  refine D.ok scNumbers (fun vs H Q E h => ?_) (fun f cdv A outer s H vs Q E hr h => ?_)
  · obtain ⟨cell, salt, a, sz, rfl, _⟩ := h
    rfl
  · obtain ⟨cell, salt, a, sz, rfl, hS, hs0, hs1, hl, hz, k⟩ := h
    have sc := scNumbers
    refine ⟨_, (pss_cons (ps_set (i := 3) sc.nd rfl (Or.inl rfl) (pe_callB (call_max2 rfl) (by rfl) T.n_max (by decide +kernel) (pa_cons (pv 0) (pa_cons (pe_op op_sub (pe_un un_neg pe_int) (pv 0)) pa_nil))))
    (pss_cons (ps_set (i := 4) sc.nd rfl (Or.inl rfl) (pv 3))
    (pss_cons (ps_set (i := 5) sc.nd rfl (Or.inl rfl) (pe_lst pa_nil))
    (pss_cons (ps_for PassesOwn.never rfl (pi_range1 (by rfl) T.n_range (pa_cons (pe_callB call_len_seq (by rfl) T.n_len (by decide +kernel) (pa_cons (pv 2) pa_nil)) pa_nil)) (pg_name (i := 6) sc.nd rfl (Or.inl rfl))
      (pss_one (ps_if (PW.pt (pw_and (pt_cmpR op_ge (pv 3) (pe_op op_pow pe_int pe_int) (nomark _)) (pw_and1 (pt_cmpR op_gt (pv 4) pe_int (nomark _))))) (pss_cons (ps_expr (pe_bm PySem.F.plainAttrs_list PySem.F.slot_list_append PySem.F.type_list_append mt_append (pv 5) (pa_cons (pe_op op_mod (pv 4) (pe_ix ix_list (pv 2) (pv 6) (fun _ _ => rfl))) pa_nil)))
    (pss_one (ps_set (i := 4) sc.nd rfl (Or.inl rfl) (pe_op op_fdiv (pv 4) (pe_ix ix_list (pv 2) (pv 6) (fun _ _ => rfl)))))) (pss_cons (ps_set (i := 7) sc.nd rfl (Or.inl rfl) (pe_op op_mod (pe_op op_pow (pe_op op_add (pe_op op_add (pe_op op_mod (pv 3) pe_int) (pe_op op_mul pe_int (pv 1))) pe_int) pe_int) pe_int))
    (pss_cons (ps_set (i := 7) sc.nd rfl (Or.inl rfl) (pe_op op_mod (pe_op op_mul (pe_op op_add (pv 7) (pe_op op_mul pe_int (pe_op op_add (pv 6) pe_int))) (pe_op op_add (pv 6) pe_int)) pe_int))
    (pss_cons (ps_set (i := 7) sc.nd rfl (Or.inl rfl) (pe_op op_mod (pe_op op_mul (pe_op op_mod (pe_op op_pow (pv 7) pe_int) pe_int) pe_int) pe_int))
    (pss_one (ps_expr (pe_bm PySem.F.plainAttrs_list PySem.F.slot_list_append PySem.F.type_list_append mt_append (pv 5) (pa_cons (pe_op op_mod (pe_op op_fdiv (pv 7) pe_int) (pe_ix ix_list (pv 2) (pv 6) (fun _ _ => rfl))) pa_nil))))))))))
    (pss_one (ps_ret (pv 5))))))), ?_⟩
    walk_at "wp"
    generalize hw : (if -1 - cell > cell then -1 - cell else cell) = whole
    have hw0 : 0 ≤ whole := by
      rw [← hw]
      split <;> omega
    have hne : ∀ {q : Addr} {xs : List V}, SqL K H q xs → ∀ {p : Addr} {o : HO}, H p = none → SqL K (upd H p o) q xs := fun {q xs} h {p o} hp => by
      rcases h with (h | ⟨ob, h⟩) | h
      · exact .inl (.inl (by rw [upd_ne (ne_of_none h hp)]; exact h))
      · exact .inl (.inr ⟨ob, by rw [upd_ne (ne_of_none h hp)]; exact h⟩)
      · exact .inr h
    have hsl : (nums sz).length = sz.length := List.length_map ..
    refine ⟨Nat.zero_le _, fun p hp => ⟨nums sz, Or.inl (hne hS hp), by omega, by rw [hsl]; omega, ?_⟩⟩
    refine loop_it (walk_range (lo := 0)) (fun i σ H' => ∃ (left : Int) (ns : List Int) (u v : Option V), σ = [some (V.int cell), some (V.int salt), some (V.ref a), some (V.int whole), some (V.int left), some (V.ref p), u, v] ∧ H' = upd H p (.lst (nums ns)) ∧ ns.length = i ∧ 0 ≤ left ∧ (∀ n ∈ ns, 0 ≤ n) ∧ ∀ (i : Nat) n z, ns[i]? = some n → sz[i]? = some z → n < z)
      ⟨whole, [], none, none, rfl, rfl, rfl, hw0, fun n h => (nomatch h), fun i n z h => by simp at h⟩ (fun _ _ _ _ _ => True.intro) ?_ ?_
    · rintro i x σ H1 H2 hi ⟨left, ns, u, v, rfl, rfl, hn, hl0, hnn, hlt⟩ ⟨rfl, rfl⟩
      walk_at "wp"
      rw [hsl] at hi
      have hi' : i < sz.length := by omega
      obtain ⟨z, hzi⟩ : ∃ z, sz[i]? = some z := ⟨sz[i], by simp [hi']⟩
      have hzz := hz z (List.mem_of_getElem? hzi)
      have hat : atI (nums sz) (i : Int) = some (V.int z) := atI_nat (by rw [nums, List.getElem?_map, hzi]; rfl)
      have hty : tyV K "list" (V.ref p) (upd H p (.lst (nums ns))) := Or.inl ⟨rfl, _, SqL.of upd_same⟩
      have hS1 : SqL K (upd H p (.lst (nums ns))) a (nums sz) := hne hS hp
      have hsz : (nums ns).length < sizeLine := by
        rw [nums, List.length_map, sizeLine_eq]
        omega
      have ap : ∀ x : Int, 0 ≤ x → x < z → ∃ ns' : List Int, upd (upd H p (.lst (nums ns))) p (.lst (nums ns ++ [V.int x])) = upd H p (.lst (nums ns')) ∧ ns'.length = i + 1 ∧ (∀ n ∈ ns', 0 ≤ n) ∧ ∀ (i : Nat) n z, ns'[i]? = some n → sz[i]? = some z → n < z := fun x h0 h1 => by
        refine ⟨ns ++ [x], ?_, by rw [List.length_append, hn]; rfl, fun n hm => ?_, fun j n y hj hy => ?_⟩
        · rw [upd_upd]
          congr 2
          simp [nums]
        · rcases List.mem_append.mp hm with h | h
          · exact hnn n h
          · rw [List.mem_singleton.mp h]
            exact h0
        · by_cases hji : j < ns.length
          · rw [List.getElem?_append_left hji] at hj
            exact hlt j n y hj hy
          · rw [List.getElem?_append_right (by omega)] at hj
            have e : j - ns.length = 0 := by
              have q := (List.getElem?_eq_some_iff.mp hj).1
              simp at q
              omega
            rw [e] at hj
            have e2 : j = i := by omega
            subst e2
            rw [hzi] at hy
            cases hy
            simp at hj
            omega
      have hcp : CPow 10 18 := ⟨by decide, by decide, by decide⟩
      refine ⟨hcp, ?_⟩
      have hdraw : ∀ m : Int, 0 ≤ m → 0 ≤ m % z ∧ m % z < z := fun m _ => ⟨Int.emod_nonneg _ (by omega), Int.emod_lt_of_pos _ hzz.1⟩
      generalize ha1 : whole % 2147483629 + 7919 * salt + 1 = a1
      have b1 : 0 ≤ a1 ∧ a1 < 10000000000 := by
        have q1 := Int.emod_nonneg whole (show (2147483629 : Int) ≠ 0 by decide)
        have q2 := Int.emod_lt_of_pos whole (show (0 : Int) < 2147483629 by decide)
        omega
      generalize ha2 : a1 ^ Int.toNat 3 % 2147483647 = a2
      have b2 : 0 ≤ a2 ∧ a2 < 2147483647 := by
        rw [← ha2]
        exact ⟨Int.emod_nonneg _ (by decide), Int.emod_lt_of_pos _ (by decide)⟩
      generalize ha3 : (a2 + 104729 * ((i : Int) + 1)) * ((i : Int) + 3) % 2147483629 = a3
      have b3 : 0 ≤ a3 ∧ a3 < 2147483629 := by
        rw [← ha3]
        exact ⟨Int.emod_nonneg _ (by decide), Int.emod_lt_of_pos _ (by decide)⟩
      generalize ha4 : a3 ^ Int.toNat 5 % 2147483647 = a4
      have b4 : 0 ≤ a4 ∧ a4 < 2147483647 := by
        rw [← ha4]
        exact ⟨Int.emod_nonneg _ (by decide), Int.emod_lt_of_pos _ (by decide)⟩
      generalize ha5 : a4 * 48271 % 2147483629 = a5
      have b5 : 0 ≤ a5 ∧ a5 < 2147483629 := by
        rw [← ha5]
        exact ⟨Int.emod_nonneg _ (by decide), Int.emod_lt_of_pos _ (by decide)⟩
      have hpoly : ∀ R : Prop, (∀ x : Int, 0 ≤ x → x < z → (∃ ns' : List Int, upd (upd H p (.lst (nums ns))) p (.lst (nums ns ++ [V.int x])) = upd H p (.lst (nums ns')) ∧ ns'.length = i + 1 ∧ 0 ≤ left ∧ (∀ n ∈ ns', 0 ≤ n) ∧ ∀ (i : Nat) n z, ns'[i]? = some n → sz[i]? = some z → n < z) → R) → R := fun R q => by
        refine q (a5 / 16 % z) (hdraw _ (by omega)).1 (hdraw _ (by omega)).2 ?_
        obtain ⟨ns', e1, e2, e3, e4⟩ := ap (a5 / 16 % z) (hdraw _ (by omega)).1 (hdraw _ (by omega)).2
        exact ⟨ns', e1, e2, hl0, e3, e4⟩
      have c1 : CMul 7919 salt := .inl ⟨by decide, by decide⟩
      have c2 : CPow a1 3 := ⟨by decide, by decide, by omega⟩
      have c3 : CMul 104729 ((i : Int) + 1) := .inl ⟨by decide, by decide⟩
      have c4 : CMul (a2 + 104729 * ((i : Int) + 1)) ((i : Int) + 3) := .inr ⟨by omega, by omega⟩
      have c5 : CPow a3 5 := ⟨by decide, by decide, by omega⟩
      have c6 : CMul a4 48271 := .inr ⟨by decide, by decide⟩
      have c7 : CDiv a5 16 := ⟨by decide, by decide⟩
      obtain ⟨ns', e1, e2, e3, e4⟩ := ap (a5 / 16 % z) (hdraw _ (by omega)).1 (hdraw _ (by omega)).2
      have hls : 0 ≤ left / z := Int.ediv_nonneg hl0 (by omega)
      refine ite2 (fun _ => ite2 (fun hlp => ?_) (fun _ => ?_)) (fun _ => ?_)
      · obtain ⟨ms, f1, f2, f3, f4⟩ := ap (left % z) (hdraw _ hl0).1 (hdraw _ hl0).2
        refine ⟨hty, _, hS1, _, hat, z, rfl, hzz.1, _, upd_same, hsz, _, ?_, _, hat, z, rfl, ⟨hzz.1, by omega⟩, ms, f1, f2, hls, f3, f4⟩
        rw [upd_upd]
        exact hne hS hp
      · exact ⟨by decide, c1, c2, by decide, c3, c4, by decide, c5, by decide, c6, by decide, hty, c7, _, hS1, _, hat, z, rfl, hzz.1, _, upd_same, hsz, ns', e1, e2, hl0, e3, e4⟩
      · exact ⟨by decide, c1, c2, by decide, c3, c4, by decide, c5, by decide, c6, by decide, hty, c7, _, hS1, _, hat, z, rfl, hzz.1, _, upd_same, hsz, ns', e1, e2, hl0, e3, e4⟩
    · rintro σ H1 ⟨left, ns, u, v, rfl, rfl, hn, hl0, hnn, hlt⟩
      walk_at "wp"
      refine k p ns hp ?_ hnn hlt
      rw [hn, hsl]
      omega
end
end YY

set_option maxRecDepth 100000
set_option maxHeartbeats 4000000
namespace YY
open PySem PySem.Spec PyProof.Rows L2 XX
local macro_rules | `(tactic| walk_at "wp") => `(tactic| simp only [tSeq, tNext, tAsg, tPar, gName, tCB, tCons, tNil, tVar, tC, tOp, tUn, rI, rI0, rU, tLst, tTup, tFor_eq, iRng1, iRng2, iList, iTup, tRet, tRetN, tDrop, tIfS, tTest, tB, tAnd, tOr, tNot, tIf, tAndV, tOrV, tNotV, tCall, tBM, tBM0, rIxL, rIxT, rAppend, tLc_eq, gSub, rSetL, rEq, rNe, rMulS, rIxS, tRevT, gTup, gCons, gNil, wipe, tYes, LcEnd, tDisp, tPairs, tChain, tSl, tPart, tNoPart, rSlT, rSlL, rCatT, rCat, rRep, rIsD, V.ty.injEq, iZipB, tXf, wMA, wAs, rLenK, tLenSetS, rReprE, tVeI, tOst, tErr, tMkO, sFld, tFld, rIsE2, tMakeS, rListStr, tDNotIn, tDGet, rSetD, gSub, iEnumA, rIxD, iStr,
  cxOf_K, cxOf_noxK, L2.start, List.map_cons, List.map_nil, List.length_cons, List.length_nil, Nat.reduceAdd, Nat.reduceSub, List.replicate_succ, List.replicate_zero, List.replicate, List.cons_append, List.nil_append, List.getElem?_cons_zero, List.getElem?_cons_succ, List.set_cons_zero, List.set_cons_succ, List.append_nil,
  Option.some.injEq, V.int.injEq, V.ref.injEq, V.bl.injEq, V.str.injEq, List.cons.injEq, and_true, true_and, exists_eq_left', exists_eq_left, exists_and_left, exists_and_right, exists_const, bool_ite_true, bool_ite_false, dec_ite, ndec_ite, reduceCtorEq, false_or, or_false, false_and, and_false, decide_eq_true_eq, and_assoc, reduceIte, ite_true, ite_false, Int.zero_add])

/-- at p stands a pool of draws -/
def Pool (H : Hp) (p : Addr) : Prop := ∃ (l : Addr) (i : Int) (ns : List Int), H p = some (.lst [.ref l, .int i]) ∧ H l = some (.lst (nums ns)) ∧ 0 ≤ i ∧ l ≠ p
/-- only the pool at p has gone on; else new things have come -/
structure Gr (p : Addr) (H H' : Hp) : Prop where
  keep : ∀ b o, b ≠ p → H b = some o → H' b = some o
  pool : Pool H' p
  same : ∀ (l : Addr) (i : Int), H p = some (.lst [.ref l, .int i]) → ∃ j : Int, H' p = some (.lst [.ref l, .int j])
theorem Gr.trans {p : Addr} {H H1 H2 : Hp} (a : Gr p H H1) (b : Gr p H1 H2) : Gr p H H2 := ⟨fun c o h e => b.keep c o h (a.keep c o h e), b.pool, fun l i e => by
  obtain ⟨j, e1⟩ := a.same l i e
  exact b.same l j e1⟩
/-- what was not tracked may change, too -/
theorem Gr.mut {p q : Addr} {H G : Hp} {o : HO} (g : Gr p H G) (h : Pool H p) (e : H q = none) : Gr p H (upd G q o) := by
  obtain ⟨l, i, ns, h1, h2, h3, h4⟩ := h
  obtain ⟨j, g1⟩ := g.same l i h1
  obtain ⟨l', j', ns', p1, p2, p3, p4⟩ := g.pool
  rw [g1] at p1
  cases p1
  exact ⟨fun b u hb hbu => by rw [upd_ne (ne_of_none hbu e)]; exact g.keep b u hb hbu, ⟨l, j, ns, by rw [upd_ne (ne_of_none h1 e)]; exact g1, by rw [upd_ne (ne_of_none h2 e)]; exact g.keep l _ h4 h2, p3, h4⟩, fun l2 i2 e2 => by
    rw [h1] at e2
    cases e2
    exact ⟨j, by rw [upd_ne (ne_of_none h1 e)]; exact g1⟩⟩
theorem Pool.notTup {H : Hp} {p a : Addr} {xs : List V} (h : Pool H p) (e : H a = some (.tup xs)) : a ≠ p := by
  obtain ⟨l, i, ns, h1, _⟩ := h
  exact ne_of e h1 (by intro z; cases z)
theorem Pool.notFrz {H : Hp} {p a : Addr} {o : Obj} {u : HO} (h : Pool H p) (e : H a = some (.frz o u)) : a ≠ p := by
  obtain ⟨l, i, ns, h1, _⟩ := h
  exact ne_of e h1 (by intro z; cases z)
theorem Gr.tup {K : PySem.W.Frag} {p a : Addr} {H H' : Hp} {xs : List V} (g : Gr p H H') (h : Pool H p) (e : SqT K H a xs) : SqT K H' a xs := by
  rcases e with (e | ⟨o, e⟩) | e
  · exact .inl (.inl (g.keep _ _ (h.notTup e) e))
  · exact .inl (.inr ⟨o, g.keep _ _ (h.notFrz e) e⟩)
  · exact .inr e
theorem Gr.lst {K : PySem.W.Frag} {p a : Addr} {H H' : Hp} {xs : List V} (g : Gr p H H') (h : a ≠ p) (e : SqL K H a xs) : SqL K H' a xs := by
  rcases e with (e | ⟨o, e⟩) | e
  · exact .inl (.inl (g.keep _ _ h e))
  · exact .inl (.inr ⟨o, g.keep _ _ h e⟩)
  · exact .inr e
theorem Gr.free {p a : Addr} {H H' : Hp} (g : Gr p H H') (h : Pool H p) (e : H' a = none) : H a = none := by
  cases q : H a with
  | none => rfl
  | some o =>
    by_cases c : a = p
    · subst c
      obtain ⟨l, i, ns, h1, _⟩ := g.pool
      rw [h1] at e
      cases e
    · rw [g.keep a o c q] at e
      cases e
/-- a new thing beside the pool -/
theorem Gr.new {p q : Addr} {H : Hp} {o : HO} (h : Pool H p) (e : H q = none) : Gr p H (upd H q o) := by
  refine ⟨fun b u _ hb => by rw [upd_ne (ne_of_none hb e)]; exact hb, ?_, fun l i h1 => ⟨i, by rw [upd_ne (ne_of_none h1 e)]; exact h1⟩⟩
  obtain ⟨l, i, ns, h1, h2, h3⟩ := h
  exact ⟨l, i, ns, by rw [upd_ne (ne_of_none h1 e)]; exact h1, by rw [upd_ne (ne_of_none h2 e)]; exact h2, h3⟩
theorem Gr.refl {p : Addr} {H : Hp} (h : Pool H p) : Gr p H H := ⟨fun _ _ _ e => e, h, fun l i e => ⟨i, e⟩⟩
theorem Pool.ne_none {H : Hp} {p q : Addr} (h : Pool H p) (e : H q = none) : p ≠ q := by
  obtain ⟨l, i, ns, h1, _⟩ := h
  exact ne_of_none h1 e
theorem sqT_new {K : PySem.W.Frag} {H : Hp} {a q : Addr} {xs : List V} {o : HO} (h : SqT K H a xs) (e : H q = none) : SqT K (upd H q o) a xs := by
  rcases h with (h | ⟨ob, h⟩) | h
  · exact .inl (.inl (by rw [upd_ne (ne_of_none h e)]; exact h))
  · exact .inl (.inr ⟨ob, by rw [upd_ne (ne_of_none h e)]; exact h⟩)
  · exact .inr h
theorem at_of {xs : List V} {z : Int} {j : Nat} {v : V} (e : z = (j : Int)) (h : xs[j]? = some v) : atI xs z = some v := by
  rw [e]
  exact atI_nat h
theorem same_new {H : Hp} {q : Addr} {o : HO} (e : H q = none) : Same H (upd H q o) := fun b u hb => by
  rw [upd_ne (ne_of_none hb e)]
  exact hb
theorem Same.sqT {K : PySem.W.Frag} {H H' : Hp} {a : Addr} {xs : List V} (e : Same H H') (h : SqT K H a xs) : SqT K H' a xs := by
  rcases h with (h | ⟨o, h⟩) | h
  · exact .inl (.inl (e _ _ h))
  · exact .inl (.inr ⟨o, e _ _ h⟩)
  · exact .inr h
section
variable {P : Program} {w : World} {K : PySem.W.Frag} {mg : Str → Option Value} {base : Heap}
/-! ### _law_pool -/
def spPool : Sp := fun vs H Q _ => ∃ cell salt many : Int, vs = [.int cell, .int salt, .int many] ∧ 0 ≤ salt ∧ salt ≤ 100000 ∧ 0 ≤ many ∧ many ≤ 1000 ∧ ∀ p H', Same H H' → H p = none → Pool H' p → Q (.ref p) H'
theorem scPool : FnScope ["cell", "salt", "many"] ["cell", "salt", "many"] (defScope sPool) := ⟨rfl, rfl, rfl, by decide +kernel, rfl, by decide +kernel, by decide +kernel⟩
theorem c_pool (D : Def K mg "_law_pool" sPool ["cell", "salt", "many"]) (T : Bl mg) (cN : FnC P w K mg base CX0 1 "_law_numbers" ["cell", "salt", "sizes"] (spNumbers K)) : FnC P w K mg base CX0 2 "_law_pool" ["cell", "salt", "many"] spPool := by
  refine D.ok scPool (fun vs H Q E h => ?_) (fun f cdv A outer s H vs Q E hr h => ?_)
  · obtain ⟨cell, salt, many, rfl, _⟩ := h
    rfl
  · obtain ⟨cell, salt, many, rfl, h0, h1, h2, h3, k⟩ := h
    refine ⟨_, (pss_one (ps_ret (pe_lst (pa_cons (pe_c cN hr rfl (pa_cons (pv 0) (pa_cons (pv 1) (pa_cons (pe_op op_rep (pe_lst (pa_cons pe_int pa_nil)) (pv 2)) pa_nil)))) (pa_cons pe_int pa_nil))))), ?_⟩
    walk_at "wp"
    refine ⟨by decide, fun p hp => ⟨_, upd_same, by omega, by omega, by simp only [List.length_cons, List.length_nil]; rw [sizeLine_eq]; omega, fun q hq => ?_⟩⟩
    have e : (List.replicate many.toNat [V.int 420]).flatten = nums (List.replicate many.toNat 420) := by
      rw [nums, List.map_replicate]
      induction many.toNat with
      | zero => rfl
      | succ n ih =>
        rw [List.replicate_succ, List.flatten_cons, ih]
        rfl
    rw [e]
    refine ⟨cell, salt, q, List.replicate many.toNat 420, rfl, SqL.of upd_same, h0, h1, by rw [List.length_replicate]; omega, fun z hz => ?_, fun r ns hr2 _ _ _ => ?_⟩
    · rw [List.eq_of_mem_replicate hz]
      decide
    · refine ⟨by decide, fun t ht => ?_⟩
      have s1 : Same H (upd (upd (upd H p (.lst [.int 420])) q (.lst (nums (List.replicate many.toNat 420)))) r (.lst (nums ns))) := (same_new hp).trans ((same_new hq).trans (same_new hr2))
      have ntr : t ≠ r := fun z => by
        rw [z, upd_same] at ht
        cases ht
      exact k t _ (s1.trans (same_new ht)) (s1.free ht) ⟨r, 0, ns, upd_same, by rw [upd_ne ntr.symm, upd_same], Int.le_refl 0, ntr.symm⟩
/-! ### _law_draw -/
def spDraw : Sp := fun vs H Q _ => ∃ (p : Addr) (many : Int), vs = [.ref p, .int many] ∧ Pool H p ∧ 0 < many ∧ ∀ (v : Int) H', 0 ≤ v → v < many → Gr p H H' → Q (.int v) H'
theorem scDraw : FnScope ["pool", "many", "at"] ["pool", "many"] (defScope sDraw) := ⟨rfl, rfl, rfl, by decide +kernel, rfl, by decide +kernel, by decide +kernel⟩
theorem c_draw (D : Def K mg "_law_draw" sDraw ["pool", "many"]) (T : Bl mg) : FnC P w K mg base CX0 1 "_law_draw" ["pool", "many"] spDraw := by
  refine D.ok scDraw (fun vs H Q E h => ?_) (fun f cdv A outer s H vs Q E hr h => ?_)
  · obtain ⟨p, many, rfl, _⟩ := h
    rfl
  · obtain ⟨p, many, rfl, ⟨l, i, ns, h1, h2, h3, hlp⟩, hm, k⟩ := h
    have sc := scDraw
    refine ⟨_, (pss_cons (ps_set (i := 2) sc.nd rfl (Or.inl rfl) (pe_ix ix_list (pv 0) pe_int (fun _ _ => rfl)))
    (pss_cons (ps_asg (pe_op op_add (pv 2) pe_int) (pg_sub (pv 0) pe_int set_list))
    (pss_one (ps_ret (pe_ifExp (pt_cmpR op_lt (pv 2) (pe_callB call_len_seq (by rfl) T.n_len (by decide +kernel) (pa_cons (pe_ix ix_list (pv 0) pe_int (fun _ _ => rfl)) pa_nil)) (nomark _)) (pe_op op_mod (pe_callTy call_int1 (by rfl) T.n_int (by decide +kernel) (pa_cons (pe_ix ix_list (pe_ix ix_list (pv 0) pe_int (fun _ _ => rfl)) (pv 2) (fun _ _ => rfl)) pa_nil)) (pv 1)) pe_int))))), ?_⟩
    walk_at "wp"
    have g : Gr p H (upd H p (.lst [.ref l, .int (i + 1)])) := ⟨fun b o hb e => by rw [upd_ne hb]; exact e, ⟨l, i + 1, ns, upd_same, by rw [upd_ne hlp]; exact h2, by omega, hlp⟩, fun l2 i2 e => by
      rw [h1] at e
      cases e
      exact ⟨_, upd_same⟩⟩
    refine ⟨_, SqL.of h1, V.int i, rfl, i, rfl, _, h1, 1, rfl, ?_⟩
    show ∃ x, SqL K (upd H p (.lst [.ref l, .int (i + 1)])) p x ∧ _
    refine ⟨_, SqL.of upd_same, _, rfl, l, rfl, nums ns, .inl (SqL.of (by rw [upd_ne hlp]; exact h2)), ?_⟩
    refine ⟨i, rfl, ite2 (fun hlt => ?_) (fun _ => k 0 _ (Int.le_refl 0) hm g)⟩
    have hi' : i.toNat < ns.length := by
      rw [nums, List.length_map] at hlt
      omega
    have hat : atI (nums ns) i = some (V.int ns[i.toNat]) := at_of (j := i.toNat) (by omega) (by rw [nums, List.getElem?_map]; simp [hi'])
    exact ⟨_, SqL.of upd_same, _, rfl, l, rfl, nums ns, i, rfl, SqL.of (by rw [upd_ne hlp]; exact h2), _, hat, .inl ⟨_, rfl, hm, k _ _ (Int.emod_nonneg _ (by omega)) (Int.emod_lt_of_pos _ hm) g⟩⟩
/-! ### _law_pick -/
def spPick (K : PySem.W.Frag) : Sp := fun vs H Q _ => ∃ (p a : Addr) (xs : List V), vs = [.ref p, .ref a] ∧ Pool H p ∧ ((SqL K H a xs ∧ a ≠ p) ∨ SqT K H a xs) ∧ 0 < xs.length ∧ ∀ (x : V) H', x ∈ xs → Gr p H H' → Q x H'
theorem scPick : FnScope ["pool", "some"] ["pool", "some"] (defScope sPick) := ⟨rfl, rfl, rfl, by decide +kernel, rfl, by decide +kernel, by decide +kernel⟩
theorem c_pick (D : Def K mg "_law_pick" sPick ["pool", "some"]) (T : Bl mg) (cD : FnC P w K mg base CX0 1 "_law_draw" ["pool", "many"] spDraw) : FnC P w K mg base CX0 2 "_law_pick" ["pool", "some"] (spPick K) := by
  refine D.ok scPick (fun vs H Q E h => ?_) (fun f cdv A outer s H vs Q E hr h => ?_)
  · obtain ⟨p, a, xs, rfl, _⟩ := h
    rfl
  · obtain ⟨p, a, xs, rfl, hP, hx, hl, k⟩ := h
    refine ⟨_, (pss_one (ps_ret (pe_ix (ix_list.or ix_tup) (pv 1) (pe_c cD hr rfl (pa_cons (pv 0) (pa_cons (pe_callB call_len_seq (by rfl) T.n_len (by decide +kernel) (pa_cons (pv 1) pa_nil)) pa_nil))) (fun _ _ => rfl)))), ?_⟩
    walk_at "wp"
    have hx2 : SqL K H a xs ∨ SqT K H a xs := hx.imp And.left id
    refine ⟨xs, hx2, p, _, rfl, hP, by omega, fun v H' h0 h1 g => ?_⟩
    have hv : v.toNat < xs.length := by omega
    have hat : atI xs v = some xs[v.toNat] := at_of (j := v.toNat) (by omega) (by simp [hv])
    have q := k xs[v.toNat] H' (List.getElem_mem hv) g
    rcases hx with ⟨hx, hne⟩ | hx
    · exact .inl ⟨xs, v, rfl, g.lst hne hx, _, hat, q⟩
    · exact .inr ⟨xs, v, rfl, g.tup hP hx, _, hat, q⟩
end
end YY

set_option maxRecDepth 100000
set_option maxHeartbeats 4000000
namespace YY
open PySem PySem.Spec PyProof.Rows L2 XX
local macro_rules | `(tactic| walk_at "wp") => `(tactic| simp only [tSeq, tNext, tAsg, tPar, gName, tCB, tCons, tNil, tVar, tC, tOp, tUn, rI, rI0, rU, tLst, tTup, tFor_eq, iRng1, iRng2, iList, iTup, tRet, tRetN, tDrop, tIfS, tTest, tB, tAnd, tOr, tNot, tIf, tAndV, tOrV, tNotV, tCall, tBM, tBM0, rIxL, rIxT, rAppend, tLc_eq, gSub, rSetL, rEq, rNe, rMulS, rIxS, tRevT, gTup, gCons, gNil, wipe, tYes, LcEnd, tDisp, tPairs, tChain, tSl, tPart, tNoPart, rSlT, rSlL, rCatT, rCat, rRep, rIsD, V.ty.injEq, iZipB, tXf, wMA, wAs, rLenK, tLenSetS, rReprE, tVeI, tOst, tErr, tMkO, sFld, tFld, rIsE2, tMakeS, rListStr, tDNotIn, tDGet, rSetD, gSub, iEnumA, rIxD, iStr,
  cxOf_K, cxOf_noxK, L2.start, List.map_cons, List.map_nil, List.length_cons, List.length_nil, Nat.reduceAdd, Nat.reduceSub, List.replicate_succ, List.replicate_zero, List.replicate, List.cons_append, List.nil_append, List.getElem?_cons_zero, List.getElem?_cons_succ, List.set_cons_zero, List.set_cons_succ, List.append_nil,
  Option.some.injEq, V.int.injEq, V.ref.injEq, V.bl.injEq, V.str.injEq, List.cons.injEq, and_true, true_and, exists_eq_left', exists_eq_left, exists_and_left, exists_and_right, exists_const, bool_ite_true, bool_ite_false, dec_ite, ndec_ite, reduceCtorEq, false_or, or_false, false_and, and_false, decide_eq_true_eq, and_assoc, reduceIte, ite_true, ite_false, Int.zero_add])

abbrev sWords : Stmt := topS 43
theorem Gr.ofSame {p : Addr} {H H' : Hp} (h : Pool H p) (e : Same H H') : Gr p H H' := by
  obtain ⟨l, i, ns, h1, h2, h3⟩ := h
  exact ⟨fun b o _ hb => e b o hb, ⟨l, i, ns, e _ _ h1, e _ _ h2, h3⟩, fun l i h => ⟨i, e _ _ h⟩⟩
/-! ### slices and sums of tuples, by what they leave -/
theorem cutV_whole {xs : List V} {lo hi : Option Int} (h : HT.sIx xs.length 0 lo = 0 ∧ HT.sIx xs.length xs.length hi = xs.length) : cutV xs lo hi = xs := by
  unfold cutV
  rw [h.1, h.2]
  simp
theorem sl_res {K : PySem.W.Frag} {a : Addr} {xs : List V} {lo hi : Option Int} {H : Hp} {Q : VK} (h : SqT K H a xs) (q : ∀ r H', Same H H' → SqT K H' r (cutV xs lo hi) → Q (.ref r) H') : rSlA K (.ref a) lo hi H Q :=
  ⟨a, xs, rfl, h, fun hw => q a H (Same.refl H) (by rw [cutV_whole hw]; exact h), fun _ p hp => q p _ (same_new hp) (SqT.of upd_same)⟩
theorem cat_res {K : PySem.W.Frag} {a b : Addr} {xs ys : List V} {H : Hp} {Q : VK} (h : SqT K H a xs) (h' : SqT K H b ys) (hl : xs.length + ys.length ≤ sizeLine) (q : ∀ r H', Same H H' → SqT K H' r (xs ++ ys) → Q (.ref r) H') : rCatA K (.ref a) (.ref b) H Q := by
  refine ⟨a, b, xs, ys, rfl, rfl, h, h', hl, fun e => ?_, fun _ e => ?_, fun _ _ p hp => q p _ (same_new hp) (SqT.of upd_same)⟩
  · subst e
    exact q b H (Same.refl H) h'
  · subst e
    exact q a H (Same.refl H) (by rw [List.append_nil]; exact h)
/-! ### letters and words -/
def abc : Str := PySem.Str.ofString "abcdefghijklmnopqrstuvwxyz"
theorem abc_list : abc.cps.toList = (List.range 26).map (97 + ·) := by decide +kernel
theorem abc_at {i : Int} (h0 : 0 ≤ i) (h1 : i < 26) : atI abc.cps.toList i = some (97 + i.toNat) := by
  have e : i = ((i.toNat : Nat) : Int) := by omega
  have q : abc.cps.toList[i.toNat]? = some (97 + i.toNat) := by
    rw [abc_list, List.getElem?_map, List.getElem?_range (by omega)]
    rfl
  rw [e]
  exact atI_nat q
theorem foldl_flat : ∀ (k : Nat) (z a : Array Nat), ((List.replicate k z).foldl (· ++ ·) a).toList = a.toList ++ (List.replicate k z.toList).flatten
  | 0, z, a => by simp
  | k + 1, z, a => by
    rw [List.replicate_succ, List.foldl_cons, foldl_flat k z, List.replicate_succ, List.flatten_cons]
    simp
theorem strRep_one (c : Nat) (k : Int) : (strRep ⟨#[c]⟩ k).cps.toList = List.replicate k.toNat c := by
  unfold strRep
  by_cases h : k < 1
  · rw [if_pos h]
    have e : k.toNat = 0 := by omega
    rw [e]
    rfl
  · rw [if_neg h]
    by_cases h2 : (k == 1 || Str.length ⟨#[c]⟩ == 0) = true
    · rw [if_pos h2]
      have e : k = 1 := by
        rcases Bool.or_eq_true_iff.mp h2 with h3 | h3
        · exact eq_of_beq h3
        · exact absurd (eq_of_beq h3) (by show ¬ (1 = 0); decide)
      subst e
      rfl
    · rw [if_neg h2]
      show ((List.replicate k.toNat (#[c] : Array Nat)).foldl (· ++ ·) #[]).toList = _
      rw [foldl_flat]
      show [] ++ (List.replicate k.toNat [c]).flatten = _
      rw [List.nil_append]
      induction k.toNat with
      | zero => rfl
      | succ n ih =>
        rw [List.replicate_succ, List.flatten_cons, ih]
        rfl
/-- one to eight small letters -/
def IsWord (z : Str) : Prop := 1 ≤ z.length ∧ z.length ≤ 8 ∧ ∀ c ∈ z.cps.toList, 97 ≤ c ∧ c ≤ 122
structure WordsOk (ws : List Str) : Prop where
  least : 1 ≤ ws.length
  most : ws.length ≤ 2
  all : ∀ z ∈ ws, IsWord z
  nd : ws.Nodup
  nn : ("none" : Str) ∉ ws
theorem str_len (z : Str) : z.length = z.cps.toList.length := by
  show z.cps.size = _
  rw [Array.length_toList]
theorem words_pair {a s : Int} (h0 : 0 ≤ a) (h1 : a < 24) (h2 : 1 ≤ s) (h3 : s ≤ 7) :
    IsWord (strRep ⟨#[97 + a.toNat]⟩ s) ∧ IsWord ((⟨#[97 + (a + 1).toNat]⟩ : Str) ++ strRep ⟨#[97 + a.toNat]⟩ (s - 1)) ∧ strRep ⟨#[97 + a.toNat]⟩ s ≠ (⟨#[97 + (a + 1).toNat]⟩ : Str) ++ strRep ⟨#[97 + a.toNat]⟩ (s - 1) ∧
    strRep ⟨#[97 + a.toNat]⟩ s ≠ ("none" : Str) ∧ (⟨#[97 + (a + 1).toNat]⟩ : Str) ++ strRep ⟨#[97 + a.toNat]⟩ (s - 1) ≠ ("none" : Str) := by
  have e1 := strRep_one (97 + a.toNat) s
  have e2 : ((⟨#[97 + (a + 1).toNat]⟩ : Str) ++ strRep ⟨#[97 + a.toNat]⟩ (s - 1)).cps.toList = (97 + (a + 1).toNat) :: List.replicate (s - 1).toNat (97 + a.toNat) := by
    show ((#[97 + (a + 1).toNat] : Array Nat) ++ (strRep ⟨#[97 + a.toNat]⟩ (s - 1)).cps).toList = _
    rw [Array.toList_append, strRep_one]
    rfl
  have e0 : ("none" : Str).cps.toList = [110, 111, 110, 101] := by decide +kernel
  refine ⟨⟨?_, ?_, fun c hc => ?_⟩, ⟨?_, ?_, fun c hc => ?_⟩, fun z => ?_, fun z => ?_, fun z => ?_⟩
  · rw [str_len, e1, List.length_replicate]
    omega
  · rw [str_len, e1, List.length_replicate]
    omega
  · rw [e1] at hc
    rw [List.eq_of_mem_replicate hc]
    omega
  · rw [str_len, e2, List.length_cons]
    omega
  · rw [str_len, e2, List.length_cons, List.length_replicate]
    omega
  · rw [e2] at hc
    rcases List.mem_cons.mp hc with q | q
    · omega
    · rw [List.eq_of_mem_replicate q]
      omega
  · have q : (strRep ⟨#[97 + a.toNat]⟩ s).cps.toList = ((⟨#[97 + (a + 1).toNat]⟩ : Str) ++ strRep ⟨#[97 + a.toNat]⟩ (s - 1)).cps.toList := by rw [z]
    rw [e1, e2] at q
    have e3 : s.toNat = (s - 1).toNat + 1 := by omega
    rw [e3, List.replicate_succ] at q
    injection q with q1 _
    omega
  · have q : (strRep ⟨#[97 + a.toNat]⟩ s).cps.toList = ("none" : Str).cps.toList := by rw [z]
    rw [e1, e0] at q
    have m1 : (110 : Nat) ∈ List.replicate s.toNat (97 + a.toNat) := by rw [q]; decide
    have m2 : (111 : Nat) ∈ List.replicate s.toNat (97 + a.toNat) := by rw [q]; decide
    have n1 := List.eq_of_mem_replicate m1
    have n2 := List.eq_of_mem_replicate m2
    omega
  · have q : ((⟨#[97 + (a + 1).toNat]⟩ : Str) ++ strRep ⟨#[97 + a.toNat]⟩ (s - 1)).cps.toList = ("none" : Str).cps.toList := by rw [z]
    rw [e2, e0] at q
    injection q with _ q
    have m1 : (110 : Nat) ∈ List.replicate (s - 1).toNat (97 + a.toNat) := by rw [q]; decide
    have m2 : (111 : Nat) ∈ List.replicate (s - 1).toNat (97 + a.toNat) := by rw [q]; decide
    have n1 := List.eq_of_mem_replicate m1
    have n2 := List.eq_of_mem_replicate m2
    omega
section
variable {P : Program} {w : World} {K : PySem.W.Frag} {mg : Str → Option Value} {base : Heap}
/-! ### _law_words -/
def spWords (K : PySem.W.Frag) : Sp := fun vs H Q _ => ∃ p : Addr, vs = [.ref p] ∧ Pool H p ∧ ∀ (t : Addr) (ws : List Str) H', Gr p H H' → SqT K H' t (ws.map V.str) → WordsOk ws → Q (.ref t) H'
theorem scWords : FnScope ["pool", "letters", "at", "size", "words"] ["pool"] (defScope sWords) := ⟨rfl, rfl, rfl, by decide +kernel, rfl, by decide +kernel, by decide +kernel⟩
theorem c_words (D : Def K mg "_law_words" sWords ["pool"]) (T : Bl mg) (cD : FnC P w K mg base CX0 1 "_law_draw" ["pool", "many"] spDraw) : FnC P w K mg base CX0 2 "_law_words" ["pool"] (spWords K) := by
  refine D.ok scWords (fun vs H Q E h => ?_) (fun f cdv A outer s H vs Q E hr h => ?_)
  · obtain ⟨p, rfl, _⟩ := h
    rfl
  · obtain ⟨p, rfl, hP, k⟩ := h
    have sc := scWords
    refine ⟨_, (pss_cons (ps_set (i := 1) sc.nd rfl (Or.inl rfl) pe_str)
    (pss_cons (ps_par (i := 2) (j := 3) (by rfl) sc.nd rfl rfl (by decide) rfl rfl (pa_cons (pe_c cD hr rfl (pa_cons (pv 0) (pa_cons pe_int pa_nil))) (pa_cons (pe_op op_add pe_int (pe_c cD hr rfl (pa_cons (pv 0) (pa_cons pe_int pa_nil)))) pa_nil)) (by rfl))
    (pss_cons (ps_set (i := 4) sc.nd rfl (Or.inl rfl) (pe_tup (pa_cons (pe_op op_mulS (pe_ix ix_str (pv 1) (pv 2) (fun _ _ => rfl)) (pv 3)) (pa_cons (pe_op op_add_str (pe_ix ix_str (pv 1) (pe_op op_add (pv 2) pe_int) (fun _ _ => rfl)) (pe_op op_mulS (pe_ix ix_str (pv 1) (pv 2) (fun _ _ => rfl)) (pe_op op_sub (pv 3) pe_int))) pa_nil))))
    (pss_one (ps_ret (pe_ifExp (pt_cmpR op_eq (pe_c cD hr rfl (pa_cons (pv 0) (pa_cons pe_int pa_nil))) pe_int (nomark _)) (pe_slice sl_tupA (pv 4) po_none (po_some (pe_op op_add pe_int (pe_c cD hr rfl (pa_cons (pv 0) (pa_cons pe_int pa_nil)))))) (pe_slice sl_tupA (pe_revT (pv 4)) po_none (po_some (pe_op op_add pe_int (pe_c cD hr rfl (pa_cons (pv 0) (pa_cons pe_int pa_nil)))))))))))), ?_⟩
    walk_at "wp"
    refine ⟨p, 24, rfl, hP, by decide, fun a H1 a0 a1 g1 => ⟨p, 7, rfl, g1.pool, by decide, fun b H2 b0 b1 g2 => ?_⟩⟩
    walk_at "wp"
    have hl1 : (PySem.Str.ofString "abcdefghijklmnopqrstuvwxyz").length ≤ sizeLine := by decide +kernel
    have hs : ∀ c : Nat, Str.length ⟨#[c]⟩ = 1 := fun _ => rfl
    have eb : 1 + b - 1 = (1 + b) - 1 := rfl
    obtain ⟨w1, w2, w12, wn1, wn2⟩ := words_pair (a := a) (s := 1 + b) a0 a1 (by omega) (by omega)
    have hw8 : ∀ z : Str, IsWord z → z.length ≤ 8 := fun z h => h.2.1
    refine ⟨hl1, _, abc_at a0 (by omega), by omega, by omega, by rw [hs]; decide, hl1, _, abc_at (i := a + 1) (by omega) (by omega), hl1, _, abc_at a0 (by omega), by omega, by omega, by rw [hs]; decide, ?_, by decide, fun t ht => ?_⟩
    · rw [hs, strRep_length, hs, sizeLine_eq]
      omega
    generalize hx : strRep ⟨#[97 + a.toNat]⟩ (1 + b) = x at w1 w12 wn1 ⊢
    generalize hy : (⟨#[97 + (a + 1).toNat]⟩ : Str) ++ strRep ⟨#[97 + a.toNat]⟩ (1 + b - 1) = y at w2 w12 wn2 ⊢
    have g3 : Gr p H (upd H2 t (.tup [.str x, .str y])) := (g1.trans g2).trans (Gr.new g2.pool ht)
    have fin : ∀ (u v : Str) (q : Addr) (d : Int) (G : Hp), IsWord u → IsWord v → u ≠ v → u ≠ ("none" : Str) → v ≠ ("none" : Str) → SqT K G q [.str u, .str v] → Gr p H G → 0 ≤ d → d < 2 → rSlA K (.ref q) none (some (1 + d)) G Q := fun u v q d G hu hv huv hun hvn hq hg d0 d1 => by
      refine sl_res hq fun r G' e h => ?_
      have hd : d = 0 ∨ d = 1 := by omega
      rcases hd with rfl | rfl
      · exact k r [u] G' (hg.trans (Gr.ofSame hg.pool e)) h ⟨by simp, by simp, fun z hz => by rw [List.mem_singleton.mp hz]; exact hu, by simp, fun m => hun (List.mem_singleton.mp m).symm⟩
      · exact k r [u, v] G' (hg.trans (Gr.ofSame hg.pool e)) h ⟨by simp, by simp, fun z hz => by
          rcases List.mem_cons.mp hz with e | hz
          · rw [e]; exact hu
          · rw [List.mem_singleton.mp hz]; exact hv, by simp [huv], fun m => by
          rcases List.mem_cons.mp m with e | m
          · exact hun e.symm
          · exact hvn (List.mem_singleton.mp m).symm⟩
    refine ⟨p, 2, rfl, g3.pool, by decide, fun c H3 c0 c1 g4 => ⟨rfl, ?_⟩⟩
    have g5 := g3.trans g4
    have ht3 : SqT K H3 t [.str x, .str y] := g4.tup g3.pool (SqT.of upd_same)
    refine ite2 (fun _ => ?_) fun _ => ?_
    · exact ⟨p, 2, rfl, g5.pool, by decide, fun d H4 d0 d1 g6 => ⟨d, rfl, fin x y t d H4 w1 w2 w12 wn1 wn2 (g6.tup g5.pool ht3) (g5.trans g6) d0 d1⟩⟩
    · refine ⟨_, ht3, fun q hq => ?_⟩
      have g6 : Gr p H (upd H3 q (.tup [.str y, .str x])) := g5.trans (Gr.new g5.pool hq)
      exact ⟨p, 2, rfl, g6.pool, by decide, fun d H4 d0 d1 g7 => ⟨d, rfl, fin y x q d H4 w2 w1 w12.symm wn2 wn1 (g7.tup g6.pool (SqT.of upd_same)) (g6.trans g7) d0 d1⟩⟩
end
end YY

set_option maxRecDepth 100000
set_option maxHeartbeats 4000000
namespace YY
open PySem PySem.Spec PyProof.Rows L2 XX
local macro_rules | `(tactic| walk_at "wp") => `(tactic| simp only [tSeq, tNext, tAsg, tPar, gName, tCB, tCons, tNil, tVar, tC, tOp, tUn, rI, rI0, rU, tLst, tTup, tFor_eq, iRng1, iRng2, iList, iTup, tRet, tRetN, tDrop, tIfS, tTest, tB, tAnd, tOr, tNot, tIf, tAndV, tOrV, tNotV, tCall, tBM, tBM0, rIxL, rIxT, rAppend, tLc_eq, gSub, rSetL, rEq, rNe, rMulS, rIxS, tRevT, gTup, gCons, gNil, wipe, tYes, LcEnd, tDisp, tPairs, tChain, tSl, tPart, tNoPart, rSlT, rSlL, rCatT, rCat, rRep, rIsD, V.ty.injEq, iZipB, tXf, wMA, wAs, rLenK, tLenSetS, rReprE, tVeI, tOst, tErr, tMkO, sFld, tFld, rIsE2, tMakeS, rListStr, tDNotIn, tDGet, rSetD, gSub, iEnumA, rIxD, iStr,
  cxOf_K, cxOf_noxK, L2.start, List.map_cons, List.map_nil, List.length_cons, List.length_nil, Nat.reduceAdd, Nat.reduceSub, List.replicate_succ, List.replicate_zero, List.replicate, List.cons_append, List.nil_append, List.getElem?_cons_zero, List.getElem?_cons_succ, List.set_cons_zero, List.set_cons_succ, List.append_nil,
  Option.some.injEq, V.int.injEq, V.ref.injEq, V.bl.injEq, V.str.injEq, List.cons.injEq, and_true, true_and, exists_eq_left', exists_eq_left, exists_and_left, exists_and_right, exists_const, bool_ite_true, bool_ite_false, dec_ite, ndec_ite, reduceCtorEq, false_or, or_false, false_and, and_false, decide_eq_true_eq, and_assoc, reduceIte, ite_true, ite_false, Int.zero_add])

/-! ### rows as data -/
inductive RowD where
  | set (w : Str) (v : Int) | copy (w o : Str) | take (w : Str) | br (w : Str) (v t j : Int) | go (t : Int) | group (g : Str) (a : Option Int) | meet (m : Str)
  | any (w : Str) (v : Int) (o : Str) | all (w : Str) (v : Int) (o : Str) | same (w o : Str) | fin
def optV : Option Int → V
  | none => .non
  | some i => .int i
def RowD.vals : RowD → List V
  | .set w v => [.str "set", .str w, .int v]
  | .copy w o => [.str "copy", .str w, .str o]
  | .take w => [.str "take", .str w]
  | .br w v t j => [.str "if", .str w, .int v, .int t, .int j]
  | .go t => [.str "go", .int t]
  | .group g a => [.str "group", .str g, optV a]
  | .meet m => [.str "meet", .str m]
  | .any w v o => [.str "any", .str w, .int v, .str o]
  | .all w v o => [.str "all", .str w, .int v, .str o]
  | .same w o => [.str "same", .str w, .str o]
  | .fin => [.str "end"]
def RowD.Ok (ws : List Str) (size many : Int) : RowD → Prop
  | .set w v => w ∈ ws ∧ 0 ≤ v ∧ v < size
  | .copy w o => w ∈ ws ∧ o ∈ ws
  | .take w => w ∈ ws
  | .br w v t j => w ∈ ws ∧ (0 ≤ v ∧ v < size) ∧ (0 ≤ t ∧ t ≤ many) ∧ 0 ≤ j ∧ j ≤ many
  | .go t => 0 ≤ t ∧ t ≤ many
  | .group g a => (g = "g" ∨ g = "h") ∧ ∀ i, a = some i → 0 ≤ i ∧ i < many
  | .meet m => m = "m" ∨ m = "n"
  | .any w v o => w ∈ ws ∧ (0 ≤ v ∧ v < size) ∧ o ∈ ws
  | .all w v o => w ∈ ws ∧ (0 ≤ v ∧ v < size) ∧ o ∈ ws
  | .same w o => w ∈ ws ∧ o ∈ ws
  | .fin => True
section
variable {P : Program} {w : World} {K : PySem.W.Frag} {mg : Str → Option Value} {base : Heap}
/-! ### _law_branch -/
end
end YY

set_option maxRecDepth 100000
set_option maxHeartbeats 4000000
namespace YY
open PySem PySem.Spec PyProof.Rows L2 XX
local macro_rules | `(tactic| walk_at "wp") => `(tactic| simp only [tSeq, tNext, tAsg, tPar, gName, tCB, tCons, tNil, tVar, tC, tOp, tUn, rI, rI0, rU, tLst, tTup, tFor_eq, iRng1, iRng2, iList, iTup, tRet, tRetN, tDrop, tIfS, tTest, tB, tAnd, tOr, tNot, tIf, tAndV, tOrV, tNotV, tCall, tBM, tBM0, rIxL, rIxT, rAppend, tLc_eq, gSub, rSetL, rEq, rNe, rMulS, rIxS, tRevT, gTup, gCons, gNil, wipe, tYes, LcEnd, tDisp, tPairs, tChain, tSl, tPart, tNoPart, rSlT, rSlL, rCatT, rCat, rRep, rIsD, V.ty.injEq, iZipB, tXf, wMA, wAs, rLenK, tLenSetS, rReprE, tVeI, tOst, tErr, tMkO, sFld, tFld, rIsE2, tMakeS, rListStr, tDNotIn, tDGet, rSetD, gSub, iEnumA, rIxD, iStr,
  cxOf_K, cxOf_noxK, L2.start, List.map_cons, List.map_nil, List.length_cons, List.length_nil, Nat.reduceAdd, Nat.reduceSub, List.replicate_succ, List.replicate_zero, List.replicate, List.cons_append, List.nil_append, List.getElem?_cons_zero, List.getElem?_cons_succ, List.set_cons_zero, List.set_cons_succ, List.append_nil,
  Option.some.injEq, V.int.injEq, V.ref.injEq, V.bl.injEq, V.str.injEq, List.cons.injEq, and_true, true_and, exists_eq_left', exists_eq_left, exists_and_left, exists_and_right, exists_const, bool_ite_true, bool_ite_false, dec_ite, ndec_ite, reduceCtorEq, false_or, or_false, false_and, and_false, decide_eq_true_eq, and_assoc, reduceIte, ite_true, ite_false, Int.zero_add])

section
variable {P : Program} {w : World} {K : PySem.W.Frag} {mg : Str → Option Value} {base : Heap}
end
end YY

set_option maxRecDepth 100000
set_option maxHeartbeats 4000000
namespace YY
open PySem PySem.Spec PyProof.Rows L2 XX
local macro_rules | `(tactic| walk_at "wp") => `(tactic| simp only [tSeq, tNext, tAsg, tPar, gName, tCB, tCons, tNil, tVar, tC, tOp, tUn, rI, rI0, rU, tLst, tTup, tFor_eq, iRng1, iRng2, iList, iTup, tRet, tRetN, tDrop, tIfS, tTest, tB, tAnd, tOr, tNot, tIf, tAndV, tOrV, tNotV, tCall, tBM, tBM0, rIxL, rIxT, rAppend, tLc_eq, gSub, rSetL, rEq, rNe, rMulS, rIxS, tRevT, gTup, gCons, gNil, wipe, tYes, LcEnd, tDisp, tPairs, tChain, tSl, tPart, tNoPart, rSlT, rSlL, rCatT, rCat, rRep, rIsD, V.ty.injEq, iZipB, tXf, wMA, wAs, rLenK, tLenSetS, rReprE, tVeI, tOst, tErr, tMkO, sFld, tFld, rIsE2, tMakeS, rListStr, tDNotIn, tDGet, rSetD, gSub, iEnumA, rIxD, iStr,
  cxOf_K, cxOf_noxK, L2.start, List.map_cons, List.map_nil, List.length_cons, List.length_nil, Nat.reduceAdd, Nat.reduceSub, List.replicate_succ, List.replicate_zero, List.replicate, List.cons_append, List.nil_append, List.getElem?_cons_zero, List.getElem?_cons_succ, List.set_cons_zero, List.set_cons_succ, List.append_nil,
  Option.some.injEq, V.int.injEq, V.ref.injEq, V.bl.injEq, V.str.injEq, List.cons.injEq, and_true, true_and, exists_eq_left', exists_eq_left, exists_and_left, exists_and_right, exists_const, bool_ite_true, bool_ite_false, dec_ite, ndec_ite, reduceCtorEq, false_or, or_false, false_and, and_false, decide_eq_true_eq, and_assoc, reduceIte, ite_true, ite_false, Int.zero_add])

/-- tuples at these addresses hold these rows -/
inductive RowsAt (K : PySem.W.Frag) (H : Hp) : List V → List RowD → Prop
  | nil : RowsAt K H [] []
  | cons {t : Addr} {r : RowD} {as : List V} {rs : List RowD} : SqT K H t r.vals → RowsAt K H as rs → RowsAt K H (.ref t :: as) (r :: rs)
theorem RowsAt.imp {K : PySem.W.Frag} {H H' : Hp} (f : ∀ t xs, SqT K H t xs → SqT K H' t xs) : ∀ {as : List V} {rs : List RowD}, RowsAt K H as rs → RowsAt K H' as rs
  | _, _, .nil => .nil
  | _, _, .cons h t => .cons (f _ _ h) (RowsAt.imp f t)
theorem RowsAt.app {K : PySem.W.Frag} {H : Hp} {t : Addr} {r : RowD} (h : SqT K H t r.vals) : ∀ {as : List V} {rs : List RowD}, RowsAt K H as rs → RowsAt K H (as ++ [.ref t]) (rs ++ [r])
  | _, _, .nil => .cons h .nil
  | _, _, .cons h' t' => .cons h' (RowsAt.app h t')
theorem RowsAt.len {K : PySem.W.Frag} {H : Hp} : ∀ {as : List V} {rs : List RowD}, RowsAt K H as rs → as.length = rs.length
  | _, _, .nil => rfl
  | _, _, .cons _ t => congrArg Nat.succ t.len
structure PlanD where
  rows : List RowD
  words : List Str
  size : Int
structure PlanD.Ok (pl : PlanD) (top : Int) : Prop where
  least : 2 ≤ pl.rows.length
  most : (pl.rows.length : Int) ≤ top
  words : WordsOk pl.words
  size2 : 2 ≤ pl.size
  size3 : pl.size ≤ 3
  rows : ∀ r ∈ pl.rows, r.Ok pl.words pl.size pl.rows.length
theorem sqT_mut {K : PySem.W.Frag} {H : Hp} {a D : Addr} {xs ys : List V} {o : HO} (h : SqT K H a xs) (e : H D = some (.lst ys)) : SqT K (upd H D o) a xs := by
  rcases h with (h | ⟨ob, h⟩) | h
  · exact .inl (.inl (by rw [upd_ne (ne_of h e (by intro z; cases z))]; exact h))
  · exact .inl (.inr ⟨ob, by rw [upd_ne (ne_of h e (by intro z; cases z))]; exact h⟩)
  · exact .inr h
section
variable {P : Program} {w : World} {K : PySem.W.Frag} {mg : Str → Option Value} {base : Heap}
end
end YY

set_option maxRecDepth 100000
set_option maxHeartbeats 4000000
namespace YY
open PySem PySem.Spec PyProof.Rows L2 XX
local macro_rules | `(tactic| walk_at "wp") => `(tactic| simp only [tSeq, tNext, tAsg, tPar, gName, tCB, tCons, tNil, tVar, tC, tOp, tUn, rI, rI0, rU, tLst, tTup, tFor_eq, iRng1, iRng2, iList, iTup, tRet, tRetN, tDrop, tIfS, tTest, tB, tAnd, tOr, tNot, tIf, tAndV, tOrV, tNotV, tCall, tBM, tBM0, rIxL, rIxT, rAppend, tLc_eq, gSub, rSetL, rEq, rNe, rMulS, rIxS, tRevT, gTup, gCons, gNil, wipe, tYes, LcEnd, tDisp, tPairs, tChain, tSl, tPart, tNoPart, rSlT, rSlL, rCatT, rCat, rRep, rIsD, V.ty.injEq, iZipB, tDNewK, tXf, wMA, wAs, rLenK, tLenSetS, rReprE, tVeI, tOst, tErr, tMkO, sFld, tFld, rIsE2, tMakeS, rListStr, tDNotIn, tDGet, rSetD, gSub, iEnumA, rIxD, iStr,
  cxOf_K, cxOf_noxK, L2.start, List.map_cons, List.map_nil, List.length_cons, List.length_nil, Nat.reduceAdd, Nat.reduceSub, List.replicate_succ, List.replicate_zero, List.replicate, List.cons_append, List.nil_append, List.getElem?_cons_zero, List.getElem?_cons_succ, List.set_cons_zero, List.set_cons_succ, List.append_nil,
  Option.some.injEq, V.int.injEq, V.ref.injEq, V.bl.injEq, V.str.injEq, List.cons.injEq, and_true, true_and, exists_eq_left', exists_eq_left, exists_and_left, exists_and_right, exists_const, bool_ite_true, bool_ite_false, dec_ite, ndec_ite, reduceCtorEq, false_or, or_false, false_and, and_false, decide_eq_true_eq, and_assoc, reduceIte, ite_true, ite_false, Int.zero_add])

theorem Same.sqL {K : PySem.W.Frag} {H H' : Hp} {a : Addr} {xs : List V} (e : Same H H') (h : SqL K H a xs) : SqL K H' a xs := by
  rcases h with (h | ⟨o, h⟩) | h
  · exact .inl (.inl (e _ _ h))
  · exact .inl (.inr ⟨o, e _ _ h⟩)
  · exact .inr h
mutual
theorem dp_same {K : PySem.W.Frag} {H H' : Hp} (e : Same H H') : ∀ (d : PyData) (v : V), Dp K H v d → Dp K H' v d
  | .none, _, h => by
    cases h
    exact .non
  | .bool b, _, h => by
    cases h
    exact .bl b
  | .int i, _, h => by
    cases h
    exact .int i
  | .str x, _, h => by
    cases h
    exact .str x
  | .list ds, _, h => by
    cases h with
    | lst hs ha => exact .lst (Same.sqL e hs) (dps_same e ds _ ha)
  | .tuple ds, _, h => by
    cases h with
    | tup hs ha => exact .tup (Same.sqT e hs) (dps_same e ds _ ha)
  | .dict _, _, h => nomatch h
theorem dps_same {K : PySem.W.Frag} {H H' : Hp} (e : Same H H') : ∀ (ds : List PyData) (vs : List V), DpAll K H vs ds → DpAll K H' vs ds
  | [], _, h => by
    cases h
    exact .nil
  | d :: ds, _, h => by
    cases h with
    | cons h1 h2 => exact .cons (dp_same e d _ h1) (dps_same e ds _ h2)
end
theorem dpAll_len {K : PySem.W.Frag} {H : Hp} : ∀ {vs : List V} {ds : List PyData}, DpAll K H vs ds → vs.length = ds.length
  | [], _, h => by
    cases h
    rfl
  | v :: vs, _, h => by
    cases h with
    | cons h1 h2 => rw [List.length_cons, List.length_cons, dpAll_len h2]
theorem dpAll_get {K : PySem.W.Frag} {H : Hp} : ∀ {vs : List V} {ds : List PyData} (h : DpAll K H vs ds) {i : Nat} {v : V}, vs[i]? = some v → ∃ d, ds[i]? = some d ∧ Dp K H v d
  | [], _, h, i, v, e => by simp at e
  | u :: vs, _, h, 0, v, e => by
    cases h with
    | cons h1 h2 =>
      cases e
      exact ⟨_, rfl, h1⟩
  | u :: vs, _, h, i + 1, v, e => by
    cases h with
    | cons h1 h2 => exact dpAll_get h2 e
theorem filterMap_get {α : Type} (ds : List α) (f : α → V) : (List.range ds.length).filterMap (fun i => (ds[i]?).map f) = ds.map f := by
  induction ds with
  | nil => rfl
  | cons d ds ih =>
    rw [List.length_cons, List.range_succ_eq_map, List.filterMap_cons, List.filterMap_map, List.map_cons, ← ih]
    rfl
theorem wordB_str {d : PyData} (h : wordB d = true) : ∃ z, d = .str z := by
  cases d with
  | str z => exact ⟨z, rfl⟩
  | _ => cases h
abbrev sIsBetween : Stmt := topS 6
abbrev sIsWord : Stmt := topS 7
abbrev sAreRegs : Stmt := topS 8
abbrev sIsRow : Stmt := topS 9
abbrev sIsPart : Stmt := topS 10
structure Bl2 (mg : Str → Option Value) : Prop extends Bl mg where
  n_isinstance : mg "isinstance" = none
  n_bool : mg "bool" = none
  n_str : mg "str" = none
  n_tuple : mg "tuple" = none
  n_list : mg "list" = none
  n_all : mg "all" = none
  n_zip : mg "zip" = none
  n_enumerate : mg "enumerate" = none
section
variable {P : Program} {w : World} {K : PySem.W.Frag} {mg : Str → Option Value} {base : Heap}
/-! ### is_whole, is_between -/
def spIsBetween (K : PySem.W.Frag) : Sp := fun vs H Q _ => ∃ (x : V) (d : PyData) (lo hi : Int), vs = [x, .int lo, .int hi] ∧ Dp K H x d ∧ Q (.bl (btw d lo hi)) H
theorem scIsBetween : FnScope ["value", "least", "most"] ["value", "least", "most"] (defScope sIsBetween) := ⟨rfl, rfl, rfl, by decide +kernel, rfl, by decide +kernel, by decide +kernel⟩
theorem c_isBetween (D : Def K mg "is_between" sIsBetween ["value", "least", "most"]) (T : Bl2 mg) : FnC P w K mg base CX0 2 "is_between" ["value", "least", "most"] (spIsBetween K) := by
  refine D.ok scIsBetween (fun vs H Q E h => ?_) (fun f cdv A outer s H vs Q E hr h => ?_)
  · obtain ⟨x, d, lo, hi, rfl, _⟩ := h
    rfl
  · obtain ⟨x, d, lo, hi, rfl, hx, k⟩ := h
    have sc := scIsBetween
    refine ⟨_, (pss_one (ps_ret (pe_and (pe_callB (call_isD ty_int) (by rfl) T.n_isinstance (by decide +kernel) (pa_cons (pv 0) (pa_cons (pe_ty "int" (by rfl) T.n_int) pa_nil))) (pe_and (pe_not (pe_callB (call_isD ty_bool) (by rfl) T.n_isinstance (by decide +kernel) (pa_cons (pv 0) (pa_cons (pe_ty "bool" (by rfl) T.n_bool) pa_nil)))) (pe_one (pe_chain op_le op_le (pv 1) (pv 0) (pv 2))))))), ?_⟩
    walk_at "wp"
    refine ⟨d, hx, ?_⟩
    cases hx with
    | int i =>
      have k' : Q (.bl (decide (lo ≤ i) && decide (i ≤ hi))) H := k
      rw [if_pos (by rfl)]
      refine ⟨.int i, .int i, ?_⟩
      rw [if_pos (by rfl)]
      walk_at "wp"
      refine ite2 (fun c => ?_) fun c => ?_
      · rw [decide_eq_true c] at k'
        exact k'
      · rw [decide_eq_false c] at k'
        exact k'
    | bl b =>
      rw [if_pos (by rfl)]
      refine ⟨.bool b, .bl b, ?_⟩
      rw [if_neg (by rw [isTy_bool]; exact Bool.false_ne_true)]
      exact k
    | _ =>
      rw [if_neg (by rw [isTy_int]; exact Bool.false_ne_true)]
      exact k

/-! ### is_word -/
theorem abc_mem (c : Nat) : c ∈ abc.cps.toList ↔ 97 ≤ c ∧ c ≤ 122 := by
  rw [abc_list, List.mem_map]
  constructor
  · rintro ⟨i, hi, rfl⟩
    rw [List.mem_range] at hi
    omega
  · rintro ⟨h0, h1⟩
    exact ⟨c - 97, List.mem_range.mpr (by omega), by omega⟩
def spIsWord (K : PySem.W.Frag) : Sp := fun vs H Q _ => ∃ (x : V) (d : PyData), vs = [x] ∧ Dp K H x d ∧ sm d = true ∧ ∀ H', Same H H' → Q (.bl (wordB d)) H'
theorem scIsWord : FnScope ["value", "letter"] ["value"] (defScope sIsWord) := ⟨rfl, rfl, rfl, by decide +kernel, rfl, by decide +kernel, by decide +kernel⟩
theorem c_isWord {tk tk2 : Tok} (D : Def K mg "is_word" sIsWord ["value"]) (T : Bl2 mg) (gL : mg "LETTERS" = some (.str abc tk)) (gM : mg "MOST_LETTERS" = some (.int 8 tk2)) : FnC P w K mg base CX0 1 "is_word" ["value"] (spIsWord K) := by
  refine D.ok scIsWord (fun vs H Q E h => ?_) (fun f cdv A outer s H vs Q E hr h => ?_)
  · obtain ⟨x, d, rfl, _⟩ := h
    rfl
  · obtain ⟨x, d, rfl, hx, hl, k⟩ := h
    have sc := scIsWord
    refine ⟨_, (pss_cons (ps_if (PW.pt (pw_or (pt_not (pt_val (pe_callB (call_isD ty_str) (by rfl) T.n_isinstance (by decide +kernel) (pa_cons (pv 0) (pa_cons (pe_ty "str" (by rfl) T.n_str) pa_nil))))) (pw_or1 (pt_not (pt_chain op_le op_le pe_int (pe_callB call_len_str (by rfl) T.n_len (by decide +kernel) (pa_cons (pv 0) pa_nil)) (pe_glob (v := .int 8) rfl gM ⟨_, rfl⟩)))))) (pss_one (ps_ret pe_bl)) pss_nil)
    (pss_one (ps_ret (pe_callB (cr_all rfl) (by rfl) T.n_all (by decide +kernel) (pa_cons (pe_lc (own := [("letter", 1)]) (g := gName 1) (tt := tYes) rfl sc.nd (pi_str (pv 0)) (blkOk_by (N := ["value", "letter"]) (sc := defScope sIsWord) (by decide +kernel)) (fun _ _ _ _ _ => (pg_name (i := 1) sc.nd rfl (Or.inl rfl))) (fun _ _ _ _ _ => pts_nil) (fun _ _ _ _ _ => (pe_cmpR op_in_sign (pv 1) (pe_glob (v := .str abc) rfl gL ⟨_, rfl⟩) (by rfl)))) pa_nil))))), ?_⟩
    walk_at "wp"
    refine ⟨d, hx, ?_⟩
    cases hx with
    | str z =>
      have hz : z.length ≤ sizeLine := by
        have e1 := sm_str hl
        have e2 := sizeLine_eq
        omega
      have lp : 1 ≤ z.length → z.length ≤ 8 → LcW (Its z) (gName 1) tYes (tOp (fun x y H Q => ∃ c, x = V.str { cps := #[c] } ∧ ∃ x, y = V.str x ∧ Q (V.bl (decide (c ∈ x.cps.toList))) H) (tVar 1) (tC (V.str abc))) [1] [some (V.str z), none] H fun x H1 => rAll K [x] H1 Q := by
        intro h1 h8
        refine lcw_it walk_str (fun D i G => G = upd H D (.lst ((z.cps.toList.take i).map fun c => V.bl (decide (c ∈ abc.cps.toList))))) (fun D hD => rfl) (fun _ _ _ _ _ => True.intro) ?_ ?_
        · rintro D i x H1 H2 hD hi rfl ⟨rfl, c, hc, rfl⟩
          walk_at "wp"
          have hc' : z.cps.toList[i]? = some c := by rw [Array.getElem?_toList]; exact hc
          have hi' : i < z.cps.toList.length := by simpa using hi
          refine ⟨c, rfl, _, upd_same, ?_, ?_⟩
          · rw [List.length_map, List.length_take]
            have e : z.length = z.cps.toList.length := rfl
            have e2 := sizeLine_eq
            omega
          · rw [upd_upd, List.take_add_one, hc', List.map_append]
            rfl
        · rintro D H1 hD rfl
          have hb : (wordB (.str z)) = (z.cps.toList.map fun c => decide (c ∈ abc.cps.toList)).all id := by
            have e : wordB (.str z) = (decide (1 ≤ z.length) && decide (z.length ≤ 8) && z.cps.toList.all fun c => decide (97 ≤ c ∧ c ≤ 122)) := rfl
            rw [e, decide_eq_true h1, decide_eq_true h8, List.all_map, Bool.true_and, Bool.true_and]
            congr 1
            funext c
            exact decide_eq_decide.mpr (abc_mem c).symm
          refine ⟨D, z.cps.toList.map fun c => decide (c ∈ abc.cps.toList), rfl, ?_, ?_⟩
          · refine SqL.of ?_
            rw [upd_same, List.map_map]
            congr 3
            rw [List.take_of_length_le (by simp)]
          · rw [← hb]
            exact k _ (same_new hD)
      rw [if_neg (show ¬ (!isTy (tyOf (PyData.str z)) "str") = true by rw [isTy_str]; exact Bool.false_ne_true)]
      refine ⟨z, rfl, hz, ite2 (fun a1 => ite2 (fun a2 => ⟨z, rfl, lp (by omega) (by omega)⟩) fun a2 => ?_) fun a1 => ?_⟩
      · have e : wordB (.str z) = false := by
          have e : wordB (.str z) = (decide (1 ≤ z.length) && decide (z.length ≤ 8) && z.cps.toList.all fun c => decide (97 ≤ c ∧ c ≤ 122)) := rfl
          rw [e, decide_eq_false (show ¬ z.length ≤ 8 by omega), Bool.and_false, Bool.false_and]
        rw [← e]
        exact k _ (Same.refl H)
      · rw [if_pos (by decide)]
        have e : wordB (.str z) = false := by
          have e : wordB (.str z) = (decide (1 ≤ z.length) && decide (z.length ≤ 8) && z.cps.toList.all fun c => decide (97 ≤ c ∧ c ≤ 122)) := rfl
          rw [e, decide_eq_false (show ¬ 1 ≤ z.length by omega), Bool.false_and, Bool.false_and]
        rw [← e]
        exact k _ (Same.refl H)
    | non => exact k _ (Same.refl H)
    | bl b => exact k _ (Same.refl H)
    | int i => exact k _ (Same.refl H)
    | lst _ _ => exact k _ (Same.refl H)
    | tup _ _ => exact k _ (Same.refl H)
/-! ### are_registers -/
def spAreRegs (K : PySem.W.Frag) : Sp := fun vs H Q _ => ∃ (x : V) (d : PyData), vs = [x] ∧ Dp K H x d ∧ sm d = true ∧ ∀ H', Same H H' → Q (.bl (regsB d)) H'
theorem scAreRegs : FnScope ["value", "word"] ["value"] (defScope sAreRegs) := ⟨rfl, rfl, rfl, by decide +kernel, rfl, by decide +kernel, by decide +kernel⟩
theorem c_areRegs (D : Def K mg "are_registers" sAreRegs ["value"]) (T : Bl2 mg) (cW : FnC P w K mg base CX0 1 "is_word" ["value"] (spIsWord K)) : FnC P w K mg base CX0 2 "are_registers" ["value"] (spAreRegs K) := by
  refine D.ok scAreRegs (fun vs H Q E h => ?_) (fun f cdv A outer s H vs Q E hr h => ?_)
  · obtain ⟨x, d, rfl, _⟩ := h
    rfl
  · obtain ⟨x, d, rfl, hx, hl, k⟩ := h
    have sc := scAreRegs
    have hr1 : Room 1 _ := hr.mono (by decide)
    refine ⟨_, (pss_cons (ps_if (PW.pt (pw_or (pt_not (pt_val (pe_callB (call_isD ty_tuple) (by rfl) T.n_isinstance (by decide +kernel) (pa_cons (pv 0) (pa_cons (pe_ty "tuple" (by rfl) T.n_tuple) pa_nil))))) (pw_or1 (pt_not (pt_chain op_le op_le pe_int (pe_callB call_len_seq (by rfl) T.n_len (by decide +kernel) (pa_cons (pv 0) pa_nil)) pe_int))))) (pss_one (ps_ret pe_bl)) pss_nil)
    (pss_one (ps_ret (pe_and (pe_callB (cr_all rfl) (by rfl) T.n_all (by decide +kernel) (pa_cons (pe_lc (own := [("word", 1)]) (g := gName 1) (tt := tYes) rfl sc.nd (pi_tup (pv 0)) (blkOk_by (N := ["value", "word"]) (sc := defScope sAreRegs) (by decide +kernel)) (fun _ _ _ _ _ => (pg_name (i := 1) sc.nd rfl (Or.inl rfl))) (fun _ _ _ _ _ => pts_nil) (fun _ _ _ _ _ => (pe_c cW hr1 rfl (pa_cons (pv 1) pa_nil)))) pa_nil)) (pe_one (pe_or (pe_cmpR op_eq (pe_callB call_len_seq (by rfl) T.n_len (by decide +kernel) (pa_cons (pv 0) pa_nil)) pe_int (nomark _)) (pe_one (pe_cmpR op_ne (pe_ix ix_tup (pv 0) pe_int (fun _ _ => rfl)) (pe_ix ix_tup (pv 0) pe_int (fun _ _ => rfl)) (nomark _))))))))), ?_⟩
    walk_at "wp"
    refine ⟨d, hx, ?_⟩
    cases hx with
    | @tup a xs ds hs ha =>
      have el := dpAll_len ha
      obtain ⟨_, sm1⟩ := sm_tup hl
      rw [if_neg (show ¬ (!isTy (tyOf (PyData.tuple ds)) "tuple") = true by rw [isTy_tuple]; exact Bool.false_ne_true)]
      have bad : ¬ (1 ≤ ds.length ∧ ds.length ≤ 2) → regsB (.tuple ds) = false := fun n => by
        match ds, n with
        | [], _ => rfl
        | [_], n => exact absurd ⟨Nat.le_refl 1, Nat.le_succ 1⟩ n
        | [_, _], n => exact absurd ⟨Nat.le_succ 1, Nat.le_refl 2⟩ n
        | _ :: _ :: _ :: _, _ => rfl
      refine ⟨_, rfl, xs, .inr hs, ite2 (fun a1 => ite2 (fun a2 => ⟨_, rfl, ⟨xs, hs⟩, ?_⟩) fun a2 => ?_) fun a1 => ?_⟩
      · refine lcw_gen walk_tup (fun i => (ds[i]?).map fun d => V.bl (wordB d)) (by omega) (fun H' e => Same.sqT e hs) ?_ ?_
        · rintro i x G1 G2 Nx Q' hi hG ⟨rfl, hx⟩ q _
          walk_at "wp"
          obtain ⟨e, he, hd⟩ := dpAll_get ha hx
          exact ⟨x, e, rfl, dp_same hG _ _ hd, sms_mem sm1 (List.mem_of_getElem? he), fun H' h' => q _ _ (by rw [he]; rfl) h'⟩
        · rintro D G hG hD hL
          have e2 : (List.range xs.length).filterMap (fun i => (ds[i]?).map fun d => V.bl (wordB d)) = (ds.map wordB).map V.bl := by
            rw [el, List.map_map]
            exact filterMap_get ds _
          rw [e2] at hL
          refine ⟨D, _, rfl, SqL.of hL, _, rfl, ?_⟩
          have hs' := Same.sqT hG hs
          match ds, ha, el, a1, a2, k with
          | [e], .cons h1 .nil, el, _, _, k =>
            refine ite2 (fun c => ⟨_, rfl, _, .inr hs', rfl, ?_⟩) fun c => ?_
            · rw [if_pos (by rw [el]; rfl)]
              have e3 : regsB (.tuple [e]) = true := by simpa [regsB] using c
              rw [← e3]
              exact k _ hG
            · have e3 : regsB (.tuple [e]) = false := by simpa [regsB] using c
              rw [← e3]
              exact k _ hG
          | [e, e'], .cons h1 (.cons h2 .nil), el, _, _, k =>
            refine ite2 (fun c => ⟨_, rfl, _, .inr hs', rfl, ?_⟩) fun c => ?_
            · rw [if_neg (by rw [el]; simp)]
              have c' : wordB e = true ∧ wordB e' = true := by simpa using c
              obtain ⟨z, rfl⟩ := wordB_str c'.1
              obtain ⟨z', rfl⟩ := wordB_str c'.2
              cases h1
              cases h2
              refine ⟨_, rfl, _, hs', _, rfl, _, rfl, _, hs', _, rfl, rfl, ?_⟩
              have e3 : regsB (.tuple [.str z, .str z']) = !decide (V.str z = V.str z') := by
                rw [dec_str]
                show (wordB (.str z) && wordB (.str z') && !(z == z')) = _
                rw [c'.1, c'.2]
                rfl
              rw [← e3]
              exact k _ hG
            · have e3 : regsB (.tuple [e, e']) = false := by
                show (wordB e && wordB e' && !strEq e e') = false
                have c' : ¬ (wordB e = true ∧ wordB e' = true) := by simpa using c
                cases h1 : wordB e
                · rfl
                · cases h2 : wordB e'
                  · rfl
                  · exact absurd ⟨h1, h2⟩ c'
              rw [← e3]
              exact k _ hG
          | [], _, el, a1, _, _ => exact absurd a1 (by rw [el]; decide)
          | _ :: _ :: _ :: l, _, el, _, a2, _ => 
            rw [el] at a2
            simp only [List.length_cons] at a2
            omega
      · rw [← bad (by omega)]
        exact k _ (Same.refl H)
      · rw [if_pos (by rfl), ← bad (by omega)]
        exact k _ (Same.refl H)
    | non => exact k _ (Same.refl H)
    | bl b => exact k _ (Same.refl H)
    | int i => exact k _ (Same.refl H)
    | str z => exact k _ (Same.refl H)
    | lst _ _ => exact k _ (Same.refl H)
end
end YY

set_option maxRecDepth 100000
set_option maxHeartbeats 4000000
namespace YY
open PySem PySem.Spec PyProof.Rows L2 XX
local macro_rules | `(tactic| walk_at "wp") => `(tactic| simp only [tSeq, tNext, tAsg, tPar, gName, tCB, tCons, tNil, tVar, tC, tOp, tUn, rI, rI0, rU, tLst, tTup, tFor_eq, iRng1, iRng2, iList, iTup, tRet, tRetN, tDrop, tIfS, tTest, tB, tAnd, tOr, tNot, tIf, tAndV, tOrV, tNotV, tCall, tBM, tBM0, rIxL, rIxT, rAppend, tLc_eq, gSub, rSetL, rEq, rNe, rMulS, rIxS, tRevT, gTup, gCons, gNil, wipe, tYes, LcEnd, tDisp, tPairs, tChain, tSl, tPart, tNoPart, rSlT, rSlL, rCatT, rCat, rRep, rIsD, V.ty.injEq, iZipB, tDNewK, tXf, wMA, wAs, rLenK, tLenSetS, rReprE, tVeI, tOst, tErr, tMkO, sFld, tFld, rIsE2, tMakeS, rListStr, tDNotIn, tDGet, rSetD, gSub, iEnumA, rIxD, iStr,
  cxOf_K, cxOf_noxK, L2.start, List.map_cons, List.map_nil, List.length_cons, List.length_nil, Nat.reduceAdd, Nat.reduceSub, List.replicate_succ, List.replicate_zero, List.replicate, List.cons_append, List.nil_append, List.getElem?_cons_zero, List.getElem?_cons_succ, List.set_cons_zero, List.set_cons_succ, List.append_nil,
  Option.some.injEq, V.int.injEq, V.ref.injEq, V.bl.injEq, V.str.injEq, List.cons.injEq, and_true, true_and, exists_eq_left', exists_eq_left, exists_and_left, exists_and_right, exists_const, bool_ite_true, bool_ite_false, dec_ite, ndec_ite, reduceCtorEq, false_or, or_false, false_and, and_false, decide_eq_true_eq, and_assoc, reduceIte, ite_true, ite_false, Int.zero_add])

def formTab : List (Str × List Str) := [("set", ["place", "value"]), ("copy", ["place", "place"]), ("take", ["place"]), ("if", ["place", "value", "to", "to"]), ("go", ["to"]), ("group", ["word", "anchor"]), ("meet", ["word"]), ("any", ["place", "value", "place"]),
  ("all", ["place", "value", "place"]), ("same", ["place", "place"]), ("end", [])]
def formOf (z : Str) : Option (List Str) := (formTab.find? fun e => e.1 == z).map Prod.snd
structure FormsOk (K : PySem.W.Frag) (w : World) (mg : Str → Option Value) (fo : Addr) (es : Array DictEntry) (n : Nat) : Prop where
  g : mg "FORMS" = some (.ref fo)
  kd : KDict K w fo es n
  yes : ∀ z ns, formOf z = some ns → ∃ a, PySem.W.nsIn K fo z = some (some (.ref a)) ∧ ∀ H, SqT K H a (ns.map V.str)
  no : ∀ z, formOf z = none → PySem.W.nsIn K fo z = some none
def placeB (rs : List Str) : PyData → Bool
  | .str z => decide (z ∈ rs)
  | _ => false
def anchorB (en : Int) : PyData → Bool
  | .none => true
  | d => btw d 0 (en - 1)
def partB (rs : List Str) (size en : Int) (p : PyData) (name : Str) : Bool :=
  if name = "place" then placeB rs p
  else if name = "value" then btw p 0 (size - 1)
  else if name = "to" then btw p 0 en
  else if name = "anchor" then anchorB en p
  else wordB p
def partsB (rs : List Str) (size en : Int) : List PyData → List Str → Bool
  | [], [] => true
  | p :: ps, n :: ns => partB rs size en p n && partsB rs size en ps ns
  | _, _ => false
def rowB (rs : List Str) (size en : Int) : PyData → Bool
  | .tuple (.str k :: ps) => (match formOf k with
    | some ns => partsB rs size en ps ns
    | none => false)
  | _ => false
theorem partsB_len {rs : List Str} {size en : Int} : ∀ {ps : List PyData} {ns : List Str}, ps.length ≠ ns.length → partsB rs size en ps ns = false
  | [], [], h => absurd rfl h
  | p :: ps, n :: ns, h => by
    rw [partsB, partsB_len fun e => h (by rw [List.length_cons, List.length_cons, e]), Bool.and_false]
  | [], n :: ns, _ => rfl
  | p :: ps, [], _ => rfl
theorem partsB_false {rs : List Str} {size en : Int} : ∀ {ps : List PyData} {ns : List Str} {i : Nat} {p : PyData} {n : Str}, ps[i]? = some p → ns[i]? = some n → partB rs size en p n = false → partsB rs size en ps ns = false
  | [], _, i, p, n, h, _, _ => by simp at h
  | _ :: _, [], i, p, n, _, h, _ => by simp at h
  | q :: ps, m :: ns, 0, p, n, h1, h2, h => by
    cases h1
    cases h2
    rw [partsB, h, Bool.false_and]
  | q :: ps, m :: ns, i + 1, p, n, h1, h2, h => by
    rw [List.getElem?_cons_succ] at h1 h2
    rw [partsB, partsB_false h1 h2 h, Bool.and_false]
theorem partsB_true {rs : List Str} {size en : Int} : ∀ {ps : List PyData} {ns : List Str}, ps.length = ns.length → (∀ (j : Nat) p n, ps[j]? = some p → ns[j]? = some n → partB rs size en p n = true) → partsB rs size en ps ns = true
  | [], [], _, _ => rfl
  | [], n :: ns, h, _ => nomatch h
  | p :: ps, [], h, _ => nomatch h
  | p :: ps, n :: ns, h, k => by
    rw [partsB, k 0 p n rfl rfl, partsB_true (Nat.succ.inj h) fun j p n h1 h2 => k (j + 1) p n h1 h2]
    rfl
theorem inV_strs {z : Str} {rs : List Str} : inV (.str z) (rs.map V.str) = decide (z ∈ rs) := by
  unfold inV
  rw [List.any_map]
  induction rs with
  | nil => rfl
  | cons r rs ih =>
    rw [List.any_cons, ih]
    have e : (((fun y => eqV y (V.str z)) ∘ V.str) r) = (r == z) := rfl
    rw [e]
    by_cases c : z = r
    · subst c
      simp
    · have c' : (r == z) = false := beq_false_of_ne fun e => c e.symm
      rw [c', Bool.false_or]
      exact decide_eq_decide.mpr ⟨List.mem_cons_of_mem _, fun h => (List.mem_cons.mp h).resolve_left c⟩
section
variable {P : Program} {w : World} {K : PySem.W.Frag} {mg : Str → Option Value} {base : Heap}
/-! ### _is_part -/
def nameOk (n : Str) : Bool := n == "place" || n == "value" || n == "to" || n == "anchor" || n == "word"
theorem formOf_names {z : Str} {ns : List Str} (h : formOf z = some ns) : ∀ n ∈ ns, nameOk n = true := by
  unfold formOf at h
  obtain ⟨e, he, rfl⟩ := Option.map_eq_some_iff.mp h
  have all : ∀ e ∈ formTab, ∀ n ∈ e.2, nameOk n = true := by decide +kernel
  exact all e (List.mem_of_find?_eq_some he)
theorem partB_word {rs : List Str} {size en : Int} {d : PyData} : partB rs size en d "word" = wordB d := by
  unfold partB
  rw [if_neg (by decide), if_neg (by decide), if_neg (by decide), if_neg (by decide)]
theorem partB_val {rs : List Str} {size en : Int} {d : PyData} : partB rs size en d "value" = btw d 0 (size - 1) := by
  unfold partB
  rw [if_neg (by decide), if_pos rfl]
theorem partB_to {rs : List Str} {size en : Int} {d : PyData} : partB rs size en d "to" = btw d 0 en := by
  unfold partB
  rw [if_neg (by decide), if_neg (by decide), if_pos rfl]
theorem partB_anchor {rs : List Str} {size en : Int} {d : PyData} : partB rs size en d "anchor" = anchorB en d := by
  unfold partB
  rw [if_neg (by decide), if_neg (by decide), if_neg (by decide), if_pos rfl]
theorem name_cases {n : Str} (h : nameOk n = true) (n1 : ¬ n = "place") (n2 : ¬ n = "word") : n = "value" ∨ n = "to" ∨ n = "anchor" := by
  unfold nameOk at h
  simp only [Bool.or_eq_true, beq_iff_eq] at h
  rcases h with (((h | h) | h) | h) | h
  · exact absurd h n1
  · exact .inl h
  · exact .inr (.inl h)
  · exact .inr (.inr h)
  · exact absurd h n2
def spIsPart (K : PySem.W.Frag) : Sp := fun vs H Q _ => ∃ (x : V) (d : PyData) (name : Str) (ra : Addr) (rs : List Str) (size en : Int), vs = [x, .str name, .ref ra, .int size, .int en] ∧ Dp K H x d ∧ sm d = true ∧ SqT K H ra (rs.map V.str) ∧ nameOk name = true ∧ ∀ H', Same H H' → Q (.bl (partB rs size en d name)) H'
theorem scIsPart : FnScope ["part", "name", "registers", "size", "end"] ["part", "name", "registers", "size", "end"] (defScope sIsPart) := ⟨rfl, rfl, rfl, by decide +kernel, rfl, by decide +kernel, by decide +kernel⟩
theorem c_isPart (D : Def K mg "_is_part" sIsPart ["part", "name", "registers", "size", "end"]) (T : Bl2 mg) (_cB : FnC P w K mg base CX0 2 "is_between" ["value", "least", "most"] (spIsBetween K)) (cW : FnC P w K mg base CX0 1 "is_word" ["value"] (spIsWord K)) : FnC P w K mg base CX0 3 "_is_part" ["part", "name", "registers", "size", "end"] (spIsPart K) := by
  refine D.ok scIsPart (fun vs H Q E h => ?_) (fun f cdv A outer s H vs Q E hr h => ?_)
  · obtain ⟨x, d, name, ra, rs, size, en, rfl, _⟩ := h
    rfl
  · obtain ⟨x, d, name, ra, rs, size, en, rfl, hx, hl, hR, hn, k⟩ := h
    have sc := scIsPart
    have hr1 : Room 1 _ := hr.mono (by decide)
    refine ⟨_, (pss_cons (ps_if (pt_cmpR op_eq (pv 1) pe_str (nomark _)) (pss_one (ps_ret (pe_and (pe_callB (call_isD ty_str) (by rfl) T.n_isinstance (by decide +kernel) (pa_cons (pv 0) (pa_cons (pe_ty "str" (by rfl) T.n_str) pa_nil))) (pe_one (pe_cmpR op_in_seq (pv 0) (pv 2) (by rfl)))))) pss_nil)
    (pss_cons (ps_if (pt_cmpR op_eq (pv 1) pe_str (nomark _)) (pss_one (ps_ret (pe_c cW hr1 rfl (pa_cons (pv 0) pa_nil)))) pss_nil)
    (pss_cons (ps_if (PW.pt (pw_and (pt_cmpR op_eq (pv 1) pe_str (nomark _)) (pw_and1 (pt_cmpR op_isN (pv 0) pe_non (nomark _))))) (pss_one (ps_ret pe_bl)) pss_nil)
    (pss_cons (ps_if (PW.pt (pw_or (pt_not (pt_val (pe_callB (call_isD ty_int) (by rfl) T.n_isinstance (by decide +kernel) (pa_cons (pv 0) (pa_cons (pe_ty "int" (by rfl) T.n_int) pa_nil))))) (pw_or (pt_val (pe_callB (call_isD ty_bool) (by rfl) T.n_isinstance (by decide +kernel) (pa_cons (pv 0) (pa_cons (pe_ty "bool" (by rfl) T.n_bool) pa_nil)))) (pw_or1 (pt_cmpR op_lt (pv 0) pe_int (nomark _)))))) (pss_one (ps_ret pe_bl)) pss_nil)
    (pss_cons (ps_if (pt_cmpR op_eq (pv 1) pe_str (nomark _)) (pss_one (ps_ret (pe_cmpR op_lt (pv 0) (pv 3) (nomark _)))) pss_nil)
    (pss_one (ps_ret (pe_ifExp (pt_cmpR op_eq (pv 1) pe_str (nomark _)) (pe_cmpR op_le (pv 0) (pv 4) (nomark _)) (pe_cmpR op_lt (pv 0) (pv 4) (nomark _)))))))))), ?_⟩
    walk_at "wp"
    have k0 := k H (Same.refl H)
    refine ⟨rfl, ite2 (fun n1 => ⟨d, hx, ?_⟩) fun n1 => ⟨rfl, ite2 (fun n2 => ?_) fun n2 => ?_⟩⟩
    · have e : partB rs size en d name = placeB rs d := by
        unfold partB
        rw [if_pos n1]
      rw [e] at k0
      cases hx with
      | str z =>
        rw [if_pos (by rfl)]
        refine ⟨ra, _, rfl, .inr hR, rfl, ?_, ?_⟩
        · rw [List.all_map]
          exact List.all_eq_true.mpr fun _ _ => rfl
        · rw [inV_strs]
          exact k0
      | _ => exact k0
    · subst n2
      rw [partB_word] at k
      exact ⟨x, d, rfl, hx, hl, k⟩
    · have ns := name_cases hn n1 n2
      have nobtw : (∀ hi, btw d 0 hi = false) → ¬ (name = "anchor" ∧ x = .non) → Q (.bl false) H := fun nb na => by
        rcases ns with rfl | rfl | rfl
        · rw [partB_val, nb] at k0
          exact k0
        · rw [partB_to, nb] at k0
          exact k0
        · rw [partB_anchor] at k0
          have e : anchorB en d = false := by
            cases d with
            | none =>
              cases hx
              exact absurd ⟨rfl, rfl⟩ na
            | _ => exact nb (en - 1)
          rw [e] at k0
          exact k0
      refine ⟨rfl, ite2 (fun n3 => ite2 (fun n4 => ?_) fun n4 => ?_) fun n3 => ?_⟩
      · subst n3
        subst n4
        cases hx
        rw [partB_anchor] at k0
        exact k0
      all_goals
        have na : ¬ (name = ("anchor" : Str) ∧ x = V.non) := fun z => by first | exact n4 z.2 | exact n3 z.1
        refine ⟨d, hx, ?_⟩
        cases hx with
        | int i =>
          rw [if_neg (show ¬ (!isTy (tyOf (PyData.int i)) "int") = true by rw [isTy_int]; exact Bool.false_ne_true)]
          refine ⟨.int i, .int i, ?_⟩
          rw [if_neg (show ¬ isTy (tyOf (PyData.int i)) "bool" = true by rw [isTy_bool]; exact Bool.false_ne_true)]
          refine ⟨i, rfl, ite2 (fun c => ?_) fun c => ⟨rfl, ite2 (fun n5 => ⟨i, rfl, ?_⟩) fun n5 => ⟨rfl, ite2 (fun n6 => ⟨i, rfl, ?_⟩) fun n6 => ⟨i, rfl, ?_⟩⟩⟩⟩
          · refine nobtw (fun hi => ?_) na
            show (decide (0 ≤ i) && decide (i ≤ hi)) = false
            rw [decide_eq_false (show ¬ 0 ≤ i by omega), Bool.false_and]
          · subst n5
            have e : btw (.int i) 0 (size - 1) = decide (i < size) := by
              show (decide (0 ≤ i) && decide (i ≤ size - 1)) = _
              rw [decide_eq_true (show 0 ≤ i by omega), Bool.true_and]
              exact decide_eq_decide.mpr ⟨fun _ => by omega, fun _ => by omega⟩
            rw [partB_val, e] at k0
            exact k0
          · subst n6
            have e : btw (.int i) 0 en = decide (i ≤ en) := by
              show (decide (0 ≤ i) && decide (i ≤ en)) = _
              rw [decide_eq_true (show 0 ≤ i by omega), Bool.true_and]
            rw [partB_to, e] at k0
            exact k0
          · have n7 : name = ("anchor" : Str) := by
              rcases ns with z | z | z
              · exact absurd z n5
              · exact absurd z n6
              · exact z
            subst n7
            have e : anchorB en (.int i) = decide (i < en) := by
              show (decide (0 ≤ i) && decide (i ≤ en - 1)) = _
              rw [decide_eq_true (show 0 ≤ i by omega), Bool.true_and]
              exact decide_eq_decide.mpr ⟨fun _ => by omega, fun _ => by omega⟩
            rw [partB_anchor, e] at k0
            exact k0
        | bl b =>
          rw [if_neg (show ¬ (!isTy (tyOf (PyData.bool b)) "int") = true by rw [isTy_int]; exact Bool.false_ne_true)]
          refine ⟨.bool b, .bl b, ?_⟩
          rw [if_pos (by rfl)]
          exact nobtw (fun hi => rfl) na
        | _ =>
          rw [if_pos (by rfl)]
          exact nobtw (fun hi => rfl) na
/-! ### is_row -/
theorem cut_tail (v : V) (vs : List V) : cutV (v :: vs) (some 1) none = vs := by
  unfold cutV
  have e1 : HT.sIx (v :: vs).length 0 (some 1) = 1 := by
    show min 1 (v :: vs).length = 1
    rw [List.length_cons]
    omega
  have e2 : HT.sIx (v :: vs).length (v :: vs).length none = (v :: vs).length := rfl
  rw [e1, e2]
  simp
def spIsRow (K : PySem.W.Frag) : Sp := fun vs H Q _ => ∃ (x : V) (d : PyData) (ra : Addr) (rs : List Str) (size en : Int), vs = [x, .ref ra, .int size, .int en] ∧ Dp K H x d ∧ sm d = true ∧ SqT K H ra (rs.map V.str) ∧ ∀ H', Same H H' → Q (.bl (rowB rs size en d)) H'
theorem scIsRow : FnScope ["row", "registers", "size", "end", "kind", "form", "part", "name"] ["row", "registers", "size", "end"] (defScope sIsRow) := ⟨rfl, rfl, rfl, by decide +kernel, rfl, by decide +kernel, by decide +kernel⟩
theorem c_isRow {fo : Addr} {es : Array DictEntry} {n : Nat} (D : Def K mg "is_row" sIsRow ["row", "registers", "size", "end"]) (T : Bl2 mg) (F : FormsOk K w mg fo es n) (cP : FnC P w K mg base CX0 3 "_is_part" ["part", "name", "registers", "size", "end"] (spIsPart K)) :
    FnC P w K mg base CX0 4 "is_row" ["row", "registers", "size", "end"] (spIsRow K) := by
  refine D.ok scIsRow (fun vs H Q E h => ?_) (fun f cdv A outer s H vs Q E hr h => ?_)
  · obtain ⟨x, d, ra, rs, size, en, rfl, _⟩ := h
    rfl
  · obtain ⟨x, d, ra, rs, size, en, rfl, hx, hl, hR, k⟩ := h
    have sc := scIsRow
    refine ⟨_, (pss_cons (ps_if (PW.pt (pw_or (pt_not (pt_val (pe_callB (call_isD ty_tuple) (by rfl) T.n_isinstance (by decide +kernel) (pa_cons (pv 0) (pa_cons (pe_ty "tuple" (by rfl) T.n_tuple) pa_nil))))) (pw_or1 (pt_cmpR op_eq (pe_callB call_len_seq (by rfl) T.n_len (by decide +kernel) (pa_cons (pv 0) pa_nil)) pe_int (nomark _))))) (pss_one (ps_ret pe_bl)) pss_nil)
    (pss_cons (ps_set (i := 4) sc.nd rfl (Or.inl rfl) (pe_ix ix_tup (pv 0) pe_int (fun _ _ => rfl)))
    (pss_cons (ps_if (PW.pt (pw_or (pt_not (pt_val (pe_callB (call_isD ty_str) (by rfl) T.n_isinstance (by decide +kernel) (pa_cons (pv 4) (pa_cons (pe_ty "str" (by rfl) T.n_str) pa_nil))))) (pw_or1 (pt_cmpR (op_notIn_kd F.kd) (pv 4) (pe_glob (v := .ref fo) rfl F.g rfl) (by rfl))))) (pss_one (ps_ret pe_bl)) pss_nil)
    (pss_cons (ps_set (i := 5) sc.nd rfl (Or.inl rfl) (pe_ix ix_kdict (pe_glob (v := .ref fo) rfl F.g rfl) (pv 4) (fun _ _ => rfl)))
    (pss_cons (ps_if (pt_cmpR op_ne (pe_callB call_len_seq (by rfl) T.n_len (by decide +kernel) (pa_cons (pv 0) pa_nil)) (pe_op op_add (pe_callB call_len_seq (by rfl) T.n_len (by decide +kernel) (pa_cons (pv 5) pa_nil)) pe_int) (nomark _)) (pss_one (ps_ret pe_bl)) pss_nil)
    (pss_cons (ps_for PassesOwn.never rfl (pi_zipB true true (by rfl) T.n_zip (pa_cons (pe_slice sl_tupA (pv 0) (po_some pe_int) po_none) (pa_cons (pv 5) pa_nil))) (pg_tup (by rfl) (pgs_cons (pg_name (i := 6) sc.nd rfl (Or.inl rfl)) (pgs_cons (pg_name (i := 7) sc.nd rfl (Or.inl rfl)) pgs_nil)))
      (pss_one (ps_if (pt_not (pt_val (pe_c cP hr rfl (pa_cons (pv 6) (pa_cons (pv 7) (pa_cons (pv 1) (pa_cons (pv 2) (pa_cons (pv 3) pa_nil)))))))) (pss_one (ps_ret pe_bl)) pss_nil)))
    (pss_one (ps_ret pe_bl)))))))), ?_⟩
    walk_at "wp"
    refine ⟨d, hx, ?_⟩
    cases hx with
    | @tup a xs ds hs ha =>
      obtain ⟨sm0, sm1⟩ := sm_tup hl
      rw [if_neg (show ¬ (!isTy (tyOf (PyData.tuple ds)) "tuple") = true by rw [isTy_tuple]; exact Bool.false_ne_true)]
      cases ha with
      | nil =>
        refine ⟨a, rfl, _, .inr hs, rfl, ?_⟩
        rw [if_pos (by rfl)]
        exact k H (Same.refl H)
      | @cons v vs e ps h1 h2 =>
        have el := dpAll_len h2
        refine ⟨a, rfl, _, .inr hs, rfl, ?_⟩
        rw [if_neg (by rw [List.length_cons]; omega)]
        refine ⟨a, rfl, _, hs, v, at_of (j := 0) rfl rfl, e, h1, ?_⟩
        cases h1 with
        | str z =>
          rw [if_neg (show ¬ (!isTy (tyOf (PyData.str z)) "str") = true by rw [isTy_str]; exact Bool.false_ne_true)]
          refine ⟨z, rfl, ?_⟩
          cases hz : formOf z with
          | none =>
            have e3 : rowB rs size en (.tuple (.str z :: ps)) = false := by
              show (match formOf z with
                | some ns => partsB rs size en ps ns
                | none => false) = false
              rw [hz]
            rw [e3] at k
            exact ⟨none, F.no z hz, k H (Same.refl H)⟩
          | some ns =>
            have e3 : rowB rs size en (.tuple (.str z :: ps)) = partsB rs size en ps ns := by
              show (match formOf z with
                | some ns => partsB rs size en ps ns
                | none => false) = _
              rw [hz]
            rw [e3] at k
            obtain ⟨fa, hf, hT⟩ := F.yes z ns hz
            refine ⟨_, hf, ?_⟩
            rw [List.length_cons] at sm0
            rw [if_neg (show ¬ (!(some (Value.ref fa)).isSome) = true from Bool.false_ne_true)]
            refine ⟨z, rfl, .ref fa, ⟨es, n, .ref fa, F.kd.at_, F.kd.lit, hf, rfl⟩, a, rfl, _, .inr hs, fa, rfl, _, .inr (hT H), rfl, ?_⟩
            rw [List.length_cons, List.length_map]
            refine ite2 (fun c => ?_) fun c => ?_
            · have eq : ps.length = ns.length := by omega
              refine sl_res hs fun r H1 e1 hr1 => ?_
              have ec : cutV (V.str z :: vs) (some 1) none = vs := cut_tail (V.str z) vs
              rw [ec] at hr1
              have hF1 : SqT K H1 fa (ns.map V.str) := hT H1
              refine ⟨r, rfl, fa, rfl, ⟨_, hr1⟩, ⟨_, hF1⟩, ?_⟩
              refine loop_it (walk_zipB (xs := vs) (ys := ns.map V.str) (by rw [List.length_map]; omega)) (fun i τ G => ∃ u1 u2, τ = [some (V.ref a), some (V.ref ra), some (V.int size), some (V.int en), some (V.str z), some (V.ref fa), u1, u2] ∧ Same H1 G ∧ ∀ (j : Nat) p n, j < i → ps[j]? = some p → ns[j]? = some n → partB rs size en p n = true)
                ⟨none, none, rfl, Same.refl _, fun j p n h => by omega⟩ (fun i τ G _ ⟨_, _, _, e, _⟩ => ⟨Same.sqT e hr1, Same.sqT e hF1⟩) ?_ ?_
              · rintro i x τ G1 G2 hi ⟨u1, u2, rfl, hG, ok⟩ ⟨q, x1, x2, rfl, hq, rfl, hx1, hx2⟩
                walk_at "wp"
                obtain ⟨pd, hp, hpd⟩ := dpAll_get h2 hx1
                have hx2 : (List.map V.str ns)[i]? = some x2 := hx2
                rw [List.getElem?_map] at hx2
                obtain ⟨nm, hn, rfl⟩ := Option.map_eq_some_iff.mp hx2
                have e12 := (e1.trans hG).trans (same_new (o := .tup [x1, V.str nm]) hq)
                refine ⟨_, SqT.of upd_same, rfl, x1, _, rfl, V.str nm, _, rfl, rfl, ?_⟩
                refine ⟨x1, pd, nm, ra, rs, size, en, rfl, dp_same e12 _ _ hpd, sms_mem sm1 (List.mem_cons_of_mem _ (List.mem_of_getElem? hp)), Same.sqT e12 hR, formOf_names hz _ (List.mem_of_getElem? hn), fun H' h' => ⟨_, rfl, ?_⟩⟩
                cases hb : partB rs size en pd nm with
                | false =>
                  rw [partsB_false hp hn hb] at k
                  exact k _ (e12.trans h')
                | true =>
                  rw [if_neg (show ¬ (!true) = true from Bool.false_ne_true)]
                  refine ⟨(hG.trans (same_new hq)).trans h', fun j p n hj h1 h2 => ?_⟩
                  by_cases c : j < i
                  · exact ok j p n c h1 h2
                  · have e : j = i := by omega
                    subst e
                    rw [hp] at h1
                    rw [hn] at h2
                    cases h1
                    cases h2
                    exact hb
              · rintro τ G ⟨u1, u2, rfl, hG, ok⟩
                rw [partsB_true eq fun j p n h1 h2 => ok j p n (by rw [el]; exact (List.getElem?_eq_some_iff.mp h1).1) h1 h2] at k
                exact k G (e1.trans hG)
            · rw [partsB_len (by omega)] at k
              exact k H (Same.refl H)
        | _ => exact k H (Same.refl H)
    | non => exact k _ (Same.refl H)
    | bl b => exact k _ (Same.refl H)
    | int i => exact k _ (Same.refl H)
    | str z => exact k _ (Same.refl H)
    | lst _ _ => exact k _ (Same.refl H)
end
end YY

set_option maxRecDepth 100000
set_option maxHeartbeats 4000000
namespace YY
open PySem PySem.Spec PyProof.Rows L2 XX
theorem filterMap_bind {α : Type} (ds : List α) (f : α → Option V) : (List.range ds.length).filterMap (fun i => (ds[i]?).bind f) = ds.filterMap f := by
  induction ds with
  | nil => rfl
  | cons d ds ih =>
    rw [List.length_cons, List.range_succ_eq_map, List.filterMap_cons, List.filterMap_map, List.filterMap_cons, ← ih]
    rfl
theorem dpAll_strs {K : PySem.W.Frag} {H : Hp} : ∀ l : List Str, DpAll K H (l.map V.str) (l.map PyData.str)
  | [] => .nil
  | z :: l => .cons (.str z) (dpAll_strs l)
theorem depth_strs : ∀ l : List Str, PyData.depthAll (l.map PyData.str) = 0
  | [] => rfl
  | z :: l => by
    rw [List.map_cons, PyData.depthAll, depth_strs l]
    rfl
theorem eqv_nil (ds : List PyData) : PyData.eqv (.list ds) (.list []) = ds.isEmpty := by
  cases ds <;> rfl
theorem filter_empty {β : Type} (l : List Nat) (p : Nat → Bool) (f : Nat → β) : ((l.filter fun c => !p c).map f).isEmpty = l.all p := by
  induction l with
  | nil => rfl
  | cons c l ih =>
    rw [List.filter_cons, List.all_cons]
    cases h : p c
    · rfl
    · rw [Bool.true_and, ← ih]
      rfl
theorem dep_mem : ∀ {ds : List PyData} {d : PyData}, d ∈ ds → d.depth ≤ PyData.depthAll ds
  | e :: ds, d, h => by
    rw [PyData.depthAll]
    rcases List.mem_cons.mp h with rfl | h
    · omega
    · have := dep_mem h
      omega
structure Bl3 (mg : Str → Option Value) : Prop extends Bl2 mg where
  n_set : mg "set" = none
  n_repr : mg "repr" = none
def gCat {α : Type} (us ws : List α) : List α := us ++ ws
theorem del_gr {p : Addr} {H H' : Hp} (g : Gr p H H') : Same (del H p) (del H' p) := fun b o h => by
  by_cases c : b = p
  · rw [c, del_same] at h
    cases h
  · rw [del_ne c] at h ⊢
    exact g.keep b o c h
theorem del_sub {p : Addr} {H : Hp} : Same (del H p) H := fun b o h => by
  by_cases c : b = p
  · rw [c, del_same] at h
    cases h
  · rw [del_ne c] at h
    exact h
theorem del_tup {K : PySem.W.Frag} {p a : Addr} {H : Hp} {xs : List V} (P : Pool H p) (h : SqT K H a xs) : SqT K (del H p) a xs := by
  rcases h with (h | ⟨o, h⟩) | h
  · exact .inl (.inl (by rw [del_ne (P.notTup h)]; exact h))
  · exact .inl (.inr ⟨o, by rw [del_ne (P.notFrz h)]; exact h⟩)
  · exact .inr h
theorem del_new {p q : Addr} {H : Hp} {o : HO} (P : Pool H p) (e : H q = none) : del (upd H q o) p q = some o := by
  rw [del_ne (P.ne_none e).symm, upd_same]
theorem dpAll_drop {K : PySem.W.Frag} {H : Hp} : ∀ (n : Nat) {xs : List V} {ds : List PyData}, DpAll K H xs ds → DpAll K H (xs.drop n) (ds.drop n)
  | 0, _, _, h => h
  | n + 1, _, _, .nil => .nil
  | n + 1, _, _, .cons _ h2 => dpAll_drop n h2
theorem dpAll_take {K : PySem.W.Frag} {H : Hp} : ∀ (n : Nat) {xs : List V} {ds : List PyData}, DpAll K H xs ds → DpAll K H (xs.take n) (ds.take n)
  | 0, _, _, _ => .nil
  | n + 1, _, _, .nil => .nil
  | n + 1, _, _, .cons h1 h2 => .cons h1 (dpAll_take n h2)
theorem sml_i {i : Int} (h0 : -10 ≤ i) (h1 : i ≤ 1000) : Sml 0 100 (.int i) := (sml_int h0 h1).mono (Nat.le_refl _) (by decide)
theorem sml_non : Sml 0 100 .none := ⟨rfl, Nat.le_refl _, Nat.zero_le _⟩
theorem sml_bl {b : Bool} : Sml 0 100 (.bool b) := ⟨rfl, Nat.le_refl _, Nat.zero_le _⟩
theorem word_sml {z : Str} (h : IsWord z) : Sml 0 100 (.str z) := (sml_str (n := 8) h.2.1 (by decide) fun c hc => by
  have e := h.2.2 c hc
  omega).mono (Nat.le_refl _) (by decide)
theorem Pool.neD {H : Hp} {p a : Addr} {kvs : List (Key × V)} (P : Pool H p) (e : H a = some (.dK kvs)) : a ≠ p := fun z => by
  obtain ⟨l, i, ns, h1, _⟩ := P
  rw [z, h1] at e
  cases e
end YY

set_option maxRecDepth 100000
set_option maxHeartbeats 4000000
namespace YY
open PySem PySem.Spec PyProof.Rows L2 XX
local macro_rules | `(tactic| walk_at "wp") => `(tactic| simp only [tSeq, tNext, tAsg, tPar, gName, tCB, tCons, tNil, tVar, tC, tOp, tUn, rI, rI0, rU, tLst, tTup, tFor_eq, iRng1, iRng2, iList, iTup, tRet, tRetN, tDrop, tIfS, tTest, tB, tAnd, tOr, tNot, tIf, tAndV, tOrV, tNotV, tCall, tBM, tBM0, rIxL, rIxT, rAppend, tLc_eq, gSub, rSetL, rEq, rNe, rMulS, rIxS, tRevT, gTup, gCons, gNil, wipe, tYes, LcEnd, tDisp, tPairs, tChain, tSl, tPart, tNoPart, rSlT, rSlL, rCatT, rCat, rRep, rIsD, V.ty.injEq, iZipB, tXf, wMA, wAs, rLenK, tLenSetS, rReprE, tVeI, tOst, tErr, tMkO, sFld, tFld, rIsE2, tMakeS, rListStr, tDNotIn, tDGet, rSetD, gSub, iEnumA, rIxD, iStr,
  cxOf_K, cxOf_noxK, L2.start, List.map_cons, List.map_nil, List.length_cons, List.length_nil, Nat.reduceAdd, Nat.reduceSub, List.replicate_succ, List.replicate_zero, List.replicate, List.cons_append, List.nil_append, List.getElem?_cons_zero, List.getElem?_cons_succ, List.set_cons_zero, List.set_cons_succ, List.append_nil,
  Option.some.injEq, V.int.injEq, V.ref.injEq, V.bl.injEq, V.str.injEq, List.cons.injEq, and_true, true_and, exists_eq_left', exists_eq_left, exists_and_left, exists_and_right, exists_const, bool_ite_true, bool_ite_false, dec_ite, ndec_ite, reduceCtorEq, false_or, or_false, false_and, and_false, decide_eq_true_eq, and_assoc, reduceIte, ite_true, ite_false, Int.zero_add])

abbrev sErrInit : Stmt := inClass (topS 28) 0
abbrev sProgInit : Stmt := inClass (topS 35) 0
section
variable {kws : List (Str × V)} {P : Program} {w : World} {K : PySem.W.Frag} {mg : Str → Option Value} {base : Heap}
theorem scErrInit : FnScope ["self", "value"] ["self", "value"] (defScope sErrInit) := ⟨rfl, rfl, rfl, by decide +kernel, rfl, by decide +kernel, by decide +kernel⟩
theorem c_errInit {fI : Addr} {fd : FuncData} {tk : Tok} (F : L2.Fun K "__init__" "LanesError.__init__" sErrInit fI fd) (nV : mg "ValueError" = none) (gM : mg "_MESSAGE" = some (.str "the attribute value tells what this is about" tk))
    (vV : PySem.W.findCls K (.type "ValueError") (.type "type") "__init__" = some (.val (.builtin "ValueError.__init__"))) : FnOk P w K mg base CX0 1 fI fd ["self", "value"] (spErr K) := by
  refine F.ok scErrInit (fun vs H Q E h => ?_) (fun cdv A outer s H vs Q E hr h => ?_)
  · obtain ⟨a, C, v, rfl, _⟩ := h
    rfl
  · obtain ⟨a, C, v, rfl, oex, no, ha, k⟩ := h
    have sc := scErrInit
    refine ⟨_, (pss_cons (ps_expr (pe_veinit (by rfl) nV vV (pa_cons (pv 0) (pa_cons (pe_glob (v := .str "the attribute value tells what this is about") rfl gM ⟨_, rfl⟩) pa_nil)) (by rfl)))
      (pss_one (ps_ost (pv 0) (pv 1) (by rfl)))), ?_⟩
    walk_at "wp"
    exact ⟨by decide, C, oex, ha, C, oex, no, .inl ⟨ha, fun dx h1 h2 => k dx h1 h2⟩⟩
theorem err_of2 {K : PySem.W.Frag} {C : Addr} {v : V} {H : Hp} {Q : XK} (oex : OexC K C) (no : PySem.W.findIn K (.ref C) "value" = some none) (h : ∀ d, H d = none → Q (.ref C) (some d) (upd H d (.xd [("value", v)]))) :
    1 ≤ 1000 ∧ ∀ a, H a = none → spErr K [.ref a, v] (upd H a (exo a C none))
      (fun v' H2 => v' = .non ∧ ∃ (d : Addr), H2 a = some (exo a C (some d)) ∧ ∃ (fs : List (Str × V)), H2 d = some (exd d fs) ∧ H d = none ∧ Q (.ref C) (some d) (upd (del H2 a) d (.xd fs))) (fun _ _ _ => False) := by
  obtain ⟨h1, h2⟩ := err_of oex no h
  refine ⟨h1, fun a ha => ?_⟩
  obtain ⟨a', C', v', e, o, n, q, r⟩ := h2 a ha
  refine ⟨a', C', v', e, o, n, q, fun dx hd hne => ?_⟩
  obtain ⟨x1, d, fs, x2, x3, x4, x5⟩ := r dx hd hne
  exact ⟨x1, d, x2, fs, x3, x4, x5⟩
/-! ### Program.__init__ -/
def itemsOf : PyData → Option (List PyData)
  | .list ds => some ds
  | .tuple ds => some ds
  | _ => none
def strsOf : PyData → List Str
  | .tuple ds => ds.filterMap fun d => match d with
    | .str z => some z
    | _ => none
  | _ => []
def isTupD : PyData → Bool
  | .tuple _ => true
  | _ => false
def intOf : PyData → Int
  | .int i => i
  | _ => 0
/-- the first row that is none -/
def firstBad (rs : List Str) (size : Int) (ds : List PyData) : Option Nat := ds.findIdx? fun d => !rowB rs size ds.length d
def rowsOk (d : PyData) : Bool := match itemsOf d with
  | some ds => decide (1 ≤ ds.length) && decide (ds.length ≤ 24)
  | none => false
structure Errs (K : PySem.W.Frag) (mg : Str → Option Value) (fI cR cN cW cB : Addr) : Prop where
  R : ErrC K mg "BadRegisters" cR fI
  N : ErrC K mg "BadNumber" cN fI
  W : ErrC K mg "BadRows" cW fI
  B : ErrC K mg "BadRow" cB fI
structure ProgC (K : PySem.W.Frag) (C : Addr) : Prop where
  cls : Cls K C
  n1 : NoAttr K C "registers"
  n2 : NoAttr K C "size"
  n3 : NoAttr K C "rows"
  n4 : NoAttr K C "end"
  n5 : NoAttr K C "places"
  n6 : NoAttr K C "changed"
def Ex (x : Addr) (H G : Hp) : Prop := ∀ b o, b ≠ x → H b = some o → G b = some o
theorem dpE_same {K : PySem.W.Frag} {H G : Hp} {v : V} {d : PyData} (e : Same H G) (h : DpE K H v d) : DpE K G v d := by
  rcases h with h | ⟨rfl, a, rfl, h⟩
  · exact .inl (dp_same e _ _ h)
  · exact .inr ⟨rfl, a, rfl, e _ _ h⟩
theorem isTy_seq (d : PyData) : (isTy (tyOf d) "list" || isTy (tyOf d) "tuple") = (itemsOf d).isSome := by cases d <;> rfl
theorem sqA_or {K : PySem.W.Frag} {t : Bool} {H : Hp} {a : Addr} {xs : List V} (h : SqA t K H a xs) : SqL K H a xs ∨ SqT K H a xs := by
  cases t
  · exact .inl h
  · exact .inr h
theorem sqA_same {K : PySem.W.Frag} {t : Bool} {H G : Hp} {a : Addr} {xs : List V} (e : Same H G) (h : SqA t K H a xs) : SqA t K G a xs := by
  cases t
  · exact Same.sqL e h
  · exact Same.sqT e h
theorem seqOf {K : PySem.W.Frag} {H : Hp} {v : V} {d : PyData} {ds : List PyData} (hi : itemsOf d = some ds) (h : DpE K H v d) : ∃ a xs, v = .ref a ∧ SqA (isTupD d) K H a xs ∧ DpAll K H xs ds := by
  rcases h with h | ⟨rfl, _⟩
  · cases h with
    | lst h1 h2 =>
      cases hi
      exact ⟨_, _, rfl, h1, h2⟩
    | tup h1 h2 =>
      cases hi
      exact ⟨_, _, rfl, h1, h2⟩
    | _ => cases hi
  · cases hi
theorem sm_items {d : PyData} {ds : List PyData} (hi : itemsOf d = some ds) (h : sm d = true) : ∀ e ∈ ds, sm e = true := fun e he => by
  cases d with
  | list xs =>
    cases hi
    exact sms_mem (sm_lst h).2 he
  | tuple xs =>
    cases hi
    exact sms_mem (sm_tup h).2 he
  | _ => cases hi
theorem regs_strs {d : PyData} (h : regsB d = true) : d = .tuple ((strsOf d).map PyData.str) ∧ (∀ z ∈ strsOf d, wordS z = true) ∧ 1 ≤ (strsOf d).length ∧ (strsOf d).length ≤ 2 := by
  match d, h with
  | .tuple [a], h =>
    have h' : wordB a = true := h
    obtain ⟨z, rfl⟩ := wordB_str h'
    exact ⟨rfl, fun y hy => by rw [List.mem_singleton.mp hy]; exact h', Nat.le_refl 1, Nat.le_succ 1⟩
  | .tuple [a, b], h =>
    have h' : (wordB a && wordB b && !strEq a b) = true := h
    rw [Bool.and_eq_true, Bool.and_eq_true] at h'
    obtain ⟨z, rfl⟩ := wordB_str h'.1.1
    obtain ⟨z', rfl⟩ := wordB_str h'.1.2
    refine ⟨rfl, fun y hy => ?_, Nat.le_succ 1, Nat.le_refl 2⟩
    rcases List.mem_cons.mp hy with e | hy
    · rw [e]
      exact h'.1.1
    · rw [List.mem_singleton.mp hy]
      exact h'.1.2
theorem dps_strs {K : PySem.W.Frag} {H : Hp} : ∀ {xs : List V} {zs : List Str}, DpAll K H xs (zs.map PyData.str) → xs = zs.map V.str
  | [], [], _ => rfl
  | [], _ :: _, h => nomatch h
  | _ :: _, [], h => nomatch h
  | x :: xs, z :: zs, h => by
    cases h with
    | cons h1 h2 =>
      cases h1
      rw [dps_strs h2]
      rfl
theorem dp_strs {K : PySem.W.Frag} {H : Hp} {v : V} {zs : List Str} (h : Dp K H v (.tuple (zs.map PyData.str))) : ∃ a, v = .ref a ∧ SqT K H a (zs.map V.str) := by
  cases h with
  | tup h1 h2 =>
    rw [dps_strs h2] at h1
    exact ⟨_, rfl, h1⟩
theorem int_btw {K : PySem.W.Frag} {H : Hp} {v : V} {d : PyData} {lo hi : Int} (h : btw d lo hi = true) (hv : Dp K H v d) : d = .int (intOf d) ∧ v = .int (intOf d) := by
  cases hv with
  | int i => exact ⟨rfl, rfl⟩
  | _ => cases h
theorem find_at {p : PyData → Bool} : ∀ {ds : List PyData} {i : Nat} {d : PyData}, ds[i]? = some d → p d = true → (∀ (j : Nat) e, j < i → ds[j]? = some e → p e = false) → ds.findIdx? p = some i
  | [], i, d, h, _, _ => by simp at h
  | x :: ds, 0, d, h, hp, _ => by
    cases h
    rw [List.findIdx?_cons, hp]
    rfl
  | x :: ds, i + 1, d, h, hp, ha => by
    rw [List.findIdx?_cons, ha 0 x (Nat.succ_pos i) rfl, find_at (ds := ds) (i := i) h hp fun j e hj he => ha (j + 1) e (Nat.succ_lt_succ hj) he]
    rfl
theorem find_none {p : PyData → Bool} : ∀ {ds : List PyData}, (∀ (j : Nat) e, ds[j]? = some e → p e = false) → ds.findIdx? p = none
  | [], _ => rfl
  | x :: ds, ha => by
    rw [List.findIdx?_cons, ha 0 x rfl, find_none (ds := ds) fun j e he => ha (j + 1) e he]
    rfl
theorem ex_upd {x : Addr} {H : Hp} {o : HO} : Ex x H (upd H x o) := fun b u hb h => by
  rw [upd_ne hb]
  exact h
theorem Ex.trans {x : Addr} {H G F : Hp} (a : Ex x H G) (b : Ex x G F) : Ex x H F := fun c u hc h => b c u hc (a c u hc h)
theorem ex_same {x : Addr} {H G : Hp} (a : Same H G) : Ex x H G := fun c u _ h => a c u h
theorem sqT_ex {K : PySem.W.Frag} {x C dx a : Addr} {fs : List (Str × V)} {H G : Hp} {xs : List V} (hx : H x = some (.ins C dx fs)) (e : Ex x H G) (h : SqT K H a xs) : SqT K G a xs := by
  rcases h with (h | ⟨o, h⟩) | h
  · exact .inl (.inl (e _ _ (ne_of h hx (by intro z; cases z)) h))
  · exact .inl (.inr ⟨o, e _ _ (ne_of h hx (by intro z; cases z)) h⟩)
  · exact .inr h
theorem sqL_ex {K : PySem.W.Frag} {x C dx a : Addr} {fs : List (Str × V)} {H G : Hp} {xs : List V} (hx : H x = some (.ins C dx fs)) (e : Ex x H G) (h : SqL K H a xs) : SqL K G a xs := by
  rcases h with (h | ⟨o, h⟩) | h
  · exact .inl (.inl (e _ _ (ne_of h hx (by intro z; cases z)) h))
  · exact .inl (.inr ⟨o, e _ _ (ne_of h hx (by intro z; cases z)) h⟩)
  · exact .inr h
mutual
theorem dp_ex {K : PySem.W.Frag} {x C dx : Addr} {fs : List (Str × V)} {H G : Hp} (hx : H x = some (.ins C dx fs)) (e : Ex x H G) : ∀ (d : PyData) (v : V), Dp K H v d → Dp K G v d
  | .none, _, h => by
    cases h
    exact .non
  | .bool b, _, h => by
    cases h
    exact .bl b
  | .int i, _, h => by
    cases h
    exact .int i
  | .str x, _, h => by
    cases h
    exact .str x
  | .list ds, _, h => by
    cases h with
    | lst hs ha => exact .lst (sqL_ex hx e hs) (dps_ex hx e ds _ ha)
  | .tuple ds, _, h => by
    cases h with
    | tup hs ha => exact .tup (sqT_ex hx e hs) (dps_ex hx e ds _ ha)
  | .dict _, _, h => nomatch h
theorem dps_ex {K : PySem.W.Frag} {x C dx : Addr} {fs : List (Str × V)} {H G : Hp} (hx : H x = some (.ins C dx fs)) (e : Ex x H G) : ∀ (ds : List PyData) (vs : List V), DpAll K H vs ds → DpAll K G vs ds
  | [], _, h => by
    cases h
    exact .nil
  | d :: ds, _, h => by
    cases h with
    | cons h1 h2 => exact .cons (dp_ex hx e d _ h1) (dps_ex hx e ds _ h2)
end
theorem sqA_ex {K : PySem.W.Frag} {t : Bool} {x C dx a : Addr} {fs : List (Str × V)} {H G : Hp} {xs : List V} (hx : H x = some (.ins C dx fs)) (e : Ex x H G) (h : SqA t K H a xs) : SqA t K G a xs := by
  cases t
  · exact sqL_ex hx e h
  · exact sqT_ex hx e h
end
end YY

set_option maxRecDepth 100000
set_option maxHeartbeats 4000000
namespace XX
open PySem PySem.Spec PyProof.Rows L2
/-! ### != of two lists of the same texts -/
def rNeS (K : PySem.W.Frag) : R2 := fun x y H Q => ∃ (a b : Addr) (zs : List Str), x = .ref a ∧ y = .ref b ∧ SqL K H a (zs.map V.str) ∧ SqL K H b (zs.map V.str) ∧ Q (.bl false) H
theorem op_neS {X : Cx} (hu : X.A.units + 64 < cLine) : OpR X (compareOp .NotEq) (rNeS X.K) := by
  intro pins s σ H x y v u Q I rx ry h
  obtain ⟨a, b, zs, rfl, rfl, ha, hb, q⟩ := h
  obtain rfl : v = Value.ref a := rx
  obtain rfl : u = Value.ref b := ry
  obtain ⟨us, r1, p1, _⟩ := I.list ha
  obtain ⟨ws, r2, p2, _⟩ := I.list hb
  have sz : us.toArray.size = ws.toArray.size := by rw [List.size_toArray, List.size_toArray, ← r1.length, ← r2.length]
  have he : ∀ j (j1 : j < us.toArray.size) (j2 : j < ws.toArray.size), SeqAt.EqAt X.A.in1 s us.toArray[j] ws.toArray[j] ((fun _ => true) j) := fun j j1 j2 => by
    have j0 : j < (zs.map V.str).length := by rw [r1.length]; simpa using j1
    obtain ⟨v1, e1, q1⟩ := r1.get (i := j) (List.getElem?_eq_getElem j0)
    obtain ⟨v2, e2, q2⟩ := r2.get (i := j) (List.getElem?_eq_getElem j0)
    have f1 : us.toArray[j] = v1 := by
      have e3 : us[j]? = some us.toArray[j] := by simp
      rw [e1] at e3
      exact (Option.some.inj e3).symm
    have f2 : ws.toArray[j] = v2 := by
      have e3 : ws[j]? = some ws.toArray[j] := by simp
      rw [e2] at e3
      exact (Option.some.inj e3).symm
    rw [f1, f2]
    have ez : (zs.map V.str)[j] = .str (zs[j]'(by simpa using j0)) := List.getElem_map ..
    rw [ez] at q1 q2
    have e4 := eqAt_V (A := X.A.in1) (s := s) q1 q2 rfl rfl
    have e5 : eqV (.str (zs[j]'(by simpa using j0))) (.str (zs[j]'(by simpa using j0))) = true := beq_self_eq_true (α := Str) _
    rw [e5] at e4
    exact e4
  refine SeqAt.RcNeAt.lists p1.isList p2.isList sz (by omega) he X.prog X.w _ _ ?_
  have e6 : (!(List.range us.toArray.size).all fun _ => true) = false := by rw [List.all_eq_true.mpr fun _ _ => rfl]; rfl
  rw [e6]
  exact ⟨.bl false, H, I, rfl, q⟩
theorem shaped_ints (ns : List Int) : SeqAt.shaped (.list (ns.map PyData.int)) = true := by
  have h1 : ∀ l : List Int, PyData.canLayAll0 (l.map PyData.int) = true := fun l => by
    induction l with
    | nil => rfl
    | cons i l ih =>
      rw [List.map_cons, PyData.canLayAll0, ih]
      rfl
  have h2 : ∀ l : List Int, PyData.depthAll (l.map PyData.int) = 0 := fun l => by
    induction l with
    | nil => rfl
    | cons i l ih =>
      rw [List.map_cons, PyData.depthAll, ih]
      rfl
  unfold SeqAt.shaped
  rw [PyData.canLay0, h1, decide_eq_true (show (PyData.list (ns.map PyData.int)).depth ≤ 64 from by show PyData.depthAll (ns.map PyData.int) + 1 ≤ 64; rw [h2]; decide)]
  rfl
end XX

set_option maxRecDepth 100000
set_option maxHeartbeats 4000000
namespace XX
open PySem PySem.Spec PyProof.Rows L2
/-! ### methods by their promise -/
structure MtC (P : Program) (w : World) (K : PySem.W.Frag) (mg : Str → Option Value) (base : Heap) (CX : CXT) (k : Nat) (C : Addr) (m : Str) (ps : List Str) (sp : Sp) : Prop where
  ex : ∃ (f : Addr) (fd : FuncData), FnOk P w K mg base CX k f fd ps sp ∧ Meth K C m f ∧ Binds K fd ps []
theorem MtC.mono {P : Program} {w : World} {K : PySem.W.Frag} {mg : Str → Option Value} {base : Heap} {CX : CXT} {j k : Nat} {C : Addr} {m : Str} {ps : List Str} {sp : Sp} (c : MtC P w K mg base CX j C m ps sp) (h : j ≤ k) : MtC P w K mg base CX k C m ps sp := by
  obtain ⟨f, fd, F, r⟩ := c.ex
  exact ⟨f, fd, F.mono h, r⟩
structure DefM (K : PySem.W.Frag) (C : Addr) (m q : Str) (st : Stmt) (ps : List Str) : Prop where
  ex : ∃ (f : Addr) (fd : FuncData), L2.Fun K m q st f fd ∧ Meth K C m f ∧ Binds K fd ps []
section
variable {P : Program} {w : World} {K : PySem.W.Frag} {mg : Str → Option Value} {base : Heap}
theorem DefM.ok {C : Addr} {m q : Str} {st : Stmt} {N ps : List Str} {k : Nat} {sp : Sp} (D : DefM K C m q st ps) (S : FnScope N ps (defScope st)) (len : ∀ vs H Q E, sp vs H Q E → vs.length = ps.length)
    (hbody : ∀ (f : Addr) (cdv : Value) (A : Around) (outer : List Env) (s : Shared) (H : Hp) (vs : List V) (Q : VK) (E : XK), Room k (A.deeper (envOfC q (defScope st) s.heap.objs.size f cdv)) → sp vs H Q E →
      ∃ t, PSs (cxOf CX0 P w K mg base N q (defScope st) f cdv A outer s H E).nox (defBody st) t ∧ t { nx := fun _ H' => Q .non H', rt := Q } (start N vs) H) : MtC P w K mg base CX0 (k + 1) C m ps sp := by
  obtain ⟨f, fd, F, hm, hb⟩ := D.ex
  exact ⟨f, fd, F.ok S len (hbody f), hm, hb⟩
end
def tMethX (C : Addr) (m : Str) (sp : Sp) (E : L2.St → XK) (ta : TE) (t : TA) : TE := fun σ H Q => ta σ H fun x H1 => ∃ a dx fs, x = .ref a ∧ H1 a = some (.ins C dx fs) ∧ fs.lookup m = none ∧
  t σ H1 fun vs H2 => sp (x :: vs) H2 Q (E σ)
section
variable {X : Cx} {CX : CXT} {k : Nat} {C : Addr} {m : Str} {ps : List Str} {sp : Sp} {E : L2.St → XK} {pos apos : Pos} {e o : Expr} {es : List Expr} {ta : TE} {t : TA} {pl : Sem Bool}
theorem pe_m (he : PE X o ta) (c : Cls X.K C) (M : MtC X.prog X.w X.K X.mg X.base CX0 k C m ps sp) (hr : Room k X.A) (ha : PA X (e :: es) t)
    (hst : starEach (e :: es) X.env = (false, eval e X.env) :: starEach es X.env := by rfl) (hpl : (backTo pos (starEach es X.env)).any (·.1) = false := by rfl)
    (ht : eval (.Call (.Attribute o m apos) (e :: es) [] pos) X.env = (do
      let ov ← eval o X.env
      standAt apos.atName
      let (f, first) ← holding [ov] (getMethod ov m pl)
      callWith pos f first (backTo pos (starEach (e :: es) X.env)) (backToKw pos (keywordEach [] X.env))) := by rfl) :
    PE X (.Call (.Attribute o m apos) (e :: es) [] pos) (tMeth C m sp [] E0 ta t) := by
  obtain ⟨f, fd, F, hm, hb⟩ := M.ex
  exact pe_meth he c hm F hr hb .nil pass0 ha hst hpl ht
theorem pe_m0 (he : PE X o ta) (c : Cls X.K C) (M : MtC X.prog X.w X.K X.mg X.base CX0 k C m ps sp) (hr : Room k X.A)
    (ht : eval (.Call (.Attribute o m apos) [] [] pos) X.env = (do
      let ov ← eval o X.env
      standAt apos.atName
      let (f, first) ← holding [ov] (getMethod ov m pl)
      callWith pos f first (backTo pos (starEach [] X.env)) (backToKw pos (keywordEach [] X.env))) := by rfl) :
    PE X (.Call (.Attribute o m apos) [] [] pos) (tMeth C m sp [] E0 ta tNil) := by
  obtain ⟨f, fd, F, hm, hb⟩ := M.ex
  exact pe_meth0 he c hm F hr hb .nil pass0 ht
theorem passLAt {X : Cx} (σ : L2.St) : PassesAt (L2.CX X.prog X.w) X σ E0 := fun pins H s e s' I c => passL pins σ H s e s' I c
end
section
variable {X : Cx}
theorem pe_fldK {e : Expr} {f : Str} {pos : Pos} {ta : TE} (K : PySem.W.Frag) (h : X.K = K) (he : PE X e ta) (hb : attributeBase e f X.env (eval e X.env) = eval e X.env) : PE X (.Attribute e f pos) (tFld K ta f) := by
  subst h
  exact pe_fld he hb
theorem ix_tupK (K : PySem.W.Frag) (h : X.K = K) : IxR X (rIxT K) := by
  subst h
  exact ix_tup
end
end XX

set_option maxRecDepth 100000
set_option maxHeartbeats 4000000
namespace XX
open PySem PySem.Spec PyProof.Rows L2
/-! ### own operators of plain instances: ==, !=, len, [] -/
section
variable {X : Cx} {CX : CXT} {k : Nat} {f C : Addr} {fd : FuncData} {ps : List Str} {sp : Sp}
/-- the callee runs within a builtin -/
theorem run_at {pins : List (Addr × Obj)} {σ : L2.St} {H : Hp} {s : Shared} {Q : VK} {us : List Value} {vs : List V} {E : XK} {A : Around} (F : FnOk X.prog X.w X.K X.mg X.base CX k f fd ps sp) (hr : Room k A) (he : Env0 X.prog X.w X.K X.mg X.base A X.stack s H) (hb : Binds X.K fd ps []) (hx : PassesAt CX X σ E)
    (I : Inv X pins σ H s) (r : Vals vs us) (h : sp vs H Q E) : wpAny (model X.prog X.w) A (call (.ref f) us) (EP X pins σ Q) X.xe s := by
  have hl : us.length = ps.length := by rw [← r.length]; exact F.len _ _ _ _ h
  have b := hb s us I.kIn (by rw [List.append_nil]; exact hl)
  rw [List.append_nil] at b
  refine wpAny_call (codeAny_mono (F.run A X.stack s H ⟨us, []⟩ us vs Q E hr he b r h) fun r s' hq => ?_)
  cases r with
  | error e => exact hx pins H s e s' I hq
  | ok fl =>
    cases fl with
    | ret u => exact I.after hq
    | next => exact False.elim hq
    | brk => exact False.elim hq
    | cont => exact False.elim hq
/-- a value that is no instance above C: of C itself, or a tuple -/
def Beside (K : PySem.W.Frag) (C : Addr) (H : Hp) (y : V) : Prop := (∃ b dy gs, y = .ref b ∧ H b = some (.ins C dy gs)) ∨ (∃ b xs, y = .ref b ∧ SqT K H b xs)
theorem beside_look {pins : List (Addr × Obj)} {σ : L2.St} {H : Hp} {s : Shared} {M : Model} {y : V} {u : Value} (I : Inv X pins σ H s) (ry : RelV y u) (h : Beside X.K C H y) : ∃ tb, PySem.W.Looks M s.heap (typeOf u) tb ∧ (tb = .ref C ∨ tb = .type "tuple") := by
  rcases h with ⟨b, dy, gs, rfl, hb⟩ | ⟨b, xs, rfl, hb⟩
  · cases ry
    obtain ⟨mB, J, _⟩ := ins_get I.hok hb
    obtain ⟨od, J, _⟩ := J.look
    exact ⟨_, J.type, .inl rfl⟩
  · cases ry
    obtain ⟨its, r, pl, hz⟩ := I.tuple hb
    obtain ⟨o, ho, hc, n, hd⟩ := pl
    refine ⟨o.cls, (PySem.W.Looks.ld ho).andThen .now, .inr hc⟩
def rEqI (K : PySem.W.Frag) (C : Addr) (sp : Sp) : R2 := fun x y H Q => ∃ a dx fs, x = .ref a ∧ H a = some (.ins C dx fs) ∧ Beside K C H y ∧ sp [x, y] H (fun v H' => ∃ b, v = .bl b ∧ Q (.bl b) H') E0
theorem op_eqI (M : MtC X.prog X.w X.K X.mg X.base CX0 k C "__eq__" ["self", "other"] sp) (hn : PySem.W.notFirst X.K C (.type "tuple") = true) (hr : Room k X.A) : OpR X (compareOp .Eq) (rEqI X.K C sp) := by
  intro pins s σ H x y v u Q I rx ry h
  obtain ⟨a, dx, fs, rfl, ha, hb, hs⟩ := h
  obtain ⟨f, fd, F, hm, bi⟩ := M.ex
  cases rx
  obtain ⟨mA, J, _⟩ := ins_get I.hok ha
  obtain ⟨od, J, _⟩ := J.look
  obtain ⟨m, hF⟩ := I.fr
  obtain ⟨tb, ht, htb⟩ := beside_look (M := model X.prog X.w) I ry hb
  have hnf : PySem.W.notFirst X.K C tb = true := by
    rcases htb with rfl | rfl
    · simp [PySem.W.notFirst]
    · exact hn
  refine PySem.W.cmp_K (op := .Eq) (tb := tb) (by have := hr.un; omega) hF I.ok.mod.kin J ht hnf hm.at_ hm.fn ?_
  refine wpAny_mono (run_at F hr I.env0 bi (fun _ _ _ _ _ _ z => z.elim) I (us := [.ref a, u]) (vs := [.ref a, y]) (.cons rfl (.cons ry .nil)) hs) (fun w s' q => ?_) fun _ _ e => e
  obtain ⟨z, H', I', rz, b, rfl, q⟩ := q
  cases rz
  exact ⟨.bl b, H', I', rfl, q⟩
theorem ifBoundB_K {M : Model} {A : Around} {E : Value → Shared → Prop} {s : Shared} {K : PySem.W.Frag} {x C : Addr} {ox : Obj} {od : Option Obj} {name : Str} {id T : String} {args : List Value} {Q : Option Value → Shared → Prop} (X : K.In s.heap) (I : PySem.W.InstAt s.heap x ox C od) (hs : PySem.W.findIn K (.ref C) name = some (some (.builtin id))) (hf : Slot T name id)
    (h : wpAny M A (call (.builtin id) (.ref x :: args)) (fun v => Q (some v)) E s) : wpAny M A (callSpecialIfBound? (.ref x) name args) Q E s := by
  simp only [callSpecialIfBound?, bindSpecialIfBound?]
  refine wpAny_holding (wpAny_bind (wpAny_bind (wpAny_bind (I.type.here ((PySem.W.looks_findIn X hs).here ?_)))))
  simp only [hf.bind]
  refine wpAny_bind (wpAny_askSetting (wpAny_ite ?_))
  have fin : wpAny M A (call (.builtin id) ([.ref x] ++ args) >>= fun v => pure (some v)) Q E s := wpAny_bind (wpAny_mono h (fun v s' h' => wpAny_pure h') fun _ _ h' => h')
  split
  · exact wpAny_bind (wpAny_pure (wpAny_pure fin))
  · exact wpAny_tryCatch (wpAny_bind (wpAny_pure (wpAny_pure fin)))
theorem op_neI (M : MtC X.prog X.w X.K X.mg X.base CX0 k C "__eq__" ["self", "other"] sp) (hn : PySem.W.notFirst X.K C (.type "tuple") = true) (hne : PySem.W.findIn X.K (.ref C) "__ne__" = some (some (.builtin "object.__ne__"))) (hob : PySem.W.subIn X.K (.ref C) (.type "object") = some true)
    (hr : Room (k + 1) X.A) : OpR X (compareOp .NotEq) (fun x y H Q => rEqI X.K C sp x y H (fun v H' => ∃ b, v = .bl b ∧ Q (.bl (!b)) H')) := by
  intro pins s σ H x y v u Q I rx ry h
  obtain ⟨a, dx, fs, rfl, ha, hb, hs⟩ := h
  obtain ⟨f, fd, F, hm, bi⟩ := M.ex
  cases rx
  obtain ⟨mA, J, _⟩ := ins_get I.hok ha
  obtain ⟨od, J, _⟩ := J.look
  obtain ⟨tb, ht, htb⟩ := beside_look (M := model X.prog X.w) I ry hb
  have hnf : tb = .ref C ∨ PySem.W.subIn X.K tb (.ref C) = some false := by
    rcases htb with rfl | rfl
    · exact .inl rfl
    · right
      unfold PySem.W.notFirst at hn
      rcases Bool.or_eq_true_iff.mp hn with e | e
      · simp at e
      · exact beq_iff_eq.mp e
  have hu : X.A.units + 1 < cLine := by have := hr.un; omega
  have one : wpAny (model X.prog X.w) X.A (tryCompare (.ref a) "__ne__" u) (fun r s' => ∃ v, r = some v ∧ EP X pins σ Q v s') X.xe s := by
    unfold tryCompare
    refine wpAny_bind (ifBoundB_K I.kIn J hne PySem.F.cmp_object.ne (wpAny_call (codeAny_call_builtin PySem.F.cmp_object.ne.plain PySem.F.cmpEntry_ne (PySem.W.check_slot PySem.F.cmpKind_ne PySem.F.cmpSplit_ne (J.type.andThen (PySem.W.looks_subIn I.kIn hob)) (PySem.F.cmpArgs_ne _ _) ?_))))
    unfold Builtin.«object.__ne__»
    repeat (first
      | with_reducible refine wpAny_cRoomFor hu ?_
      | (refine wpAny_bind (m := callSpecialIfBound? (.ref a) (Str.ofString "__eq__") [u])
          (PySem.W.ifBound_K I.kIn J hm.at_ hm.fn (wpAny_mono (run_at (us := [.ref a, u]) (vs := [.ref a, y]) F hr.in1 I.env0.in1 bi (fun _ _ _ _ _ _ z => z.elim) I (.cons rfl (.cons ry .nil)) hs) (fun r s' hq => by
            obtain ⟨z, H', I', rz, b, rfl, b', eb, q⟩ := hq
            cases eb
            cases rz
            repeat (first | exact ⟨_, rfl, .bl (!b), H', I', rfl, q⟩ | exact wpAny_pure ⟨_, rfl, .bl (!b), H', I', rfl, q⟩ | exact ⟨_, rfl, .bl (!b), H', I', rfl, b, rfl, q⟩ | exact wpAny_pure ⟨_, rfl, .bl (!b), H', I', rfl, b, rfl, q⟩ | exact wpAny_truthy_bool (wpAny_pure (wpAny_pure ⟨_, rfl, .bl (!b), H', I', rfl, b, rfl, q⟩)) | (refine wpAny_bind (m := truthy (.bool _)) (wpAny_truthy_bool ?_)) | wp_step)) fun _ _ e => e)))
      | wp_step)
  show wpAny _ _ (richCompare .NotEq (.ref a) u) _ _ _
  unfold richCompare
  simp only [oneThing_ref]
  refine wpAny_holding (wpAny_bind (wpAny_cRoomFor (by omega) ?_))
  refine wpAny_bind (J.type.here (wpAny_bind (ht.here ?_)))
  split
  · rename_i qq
    have e : PySem.W.subIn X.K tb (.ref C) = some false := by
      rcases hnf with e | e
      · rw [e] at qq; simp at qq
      · exact e
    refine wpAny_bind ((PySem.W.looks_subIn I.kIn e).here ?_)
    simp only [Bool.false_eq_true, if_false]
    refine wpAny_bind (wpAny_mono one (fun r s' z => ?_) fun _ _ e => e)
    obtain ⟨v, rfl, hq⟩ := z
    exact wpAny_pure hq
  · refine wpAny_bind (wpAny_pure ?_)
    simp only [Bool.false_eq_true, if_false]
    refine wpAny_bind (wpAny_mono one (fun r s' z => ?_) fun _ _ e => e)
    obtain ⟨v, rfl, hq⟩ := z
    exact wpAny_pure hq
/-- len(o) -/
def rLenI (C : Addr) (sp : Sp) : List V → Hp → VK → Prop := fun xs H Q => ∃ a dx fs, xs = [.ref a] ∧ H a = some (.ins C dx fs) ∧ sp xs H (fun v H' => ∃ n : Int, v = .int n ∧ (0 ≤ n ∧ n < 2 ^ 63) ∧ Q (.int n) H') E0
/-- o[i], by an own __getitem__ that may raise -/
def tIxI (C : Addr) (sp : Sp) (E : L2.St → XK) (ta tb : TE) : TE := fun σ H Q => ta σ H fun x H1 => tb σ H1 fun y H2 => ∃ a dx fs, x = .ref a ∧ H2 a = some (.ins C dx fs) ∧ sp [x, y] H2 Q (E σ)
end
end XX

set_option maxRecDepth 100000
set_option maxHeartbeats 4000000
namespace XX
open PySem PySem.Spec PyProof.Rows L2
/-! ### set(list of ints) -/
section
variable {prog : Program} {w : World} {A : Around} {E : Value → Shared → Prop} {s : Shared}
end
def rSetI (K : PySem.W.Frag) (w : World) : List V → Hp → VK → Prop := fun vs H Q => ∃ (l : Addr) (ns : List Int), vs = [.ref l] ∧ SqL K H l (ns.map V.int) ∧ ns.length ≤ 1000 ∧ ∀ p m, H p = none → m ≤ ns.length → Q (.ref p) (upd H p (SetO w p (fun z => decide (z ∈ ns)) m))
end XX

set_option maxRecDepth 100000
set_option maxHeartbeats 4000000
namespace XX
open PySem PySem.Spec PyProof.Rows L2
/-! ### comprehensions with two fors -/
def Lc1W (J : It) (g : TG) (tt : TT) (te : TE) (vs : List Nat) (σ : L2.St) (H1 : Hp) (D : Addr) (Nx : Hp → Prop) : Prop := ∃ W1 : Nat → Nat → Hp → Prop, (∃ m, W1 0 m H1) ∧ ∀ j k H, W1 j k H →
  (J.stop j H ∧ Nx H) ∨ (J.go j H ∧ ∃ Nx1 : Hp → Prop, (∀ H', Nx1 H' → ∃ k', k' < k ∧ W1 (j + 1) k' H') ∧ ∀ x H', J.yld j H x H' → g x (wipe σ vs) H' fun σ3 H5 => wipe σ3 vs = wipe σ vs ∧ tt σ3 H5 fun b H6 =>
    if b = true then te σ3 H6 fun y H7 => ∃ acc, H7 D = some (.lst acc) ∧ acc.length < sizeLine ∧ Nx1 (upd H7 D (.lst (acc ++ [y]))) else Nx1 H6)
def Lc2W (J : It) (g : TG) (tt : TT) (wi1 : TI) (g1 : TG) (tt1 : TT) (te : TE) (vs vs1 : List Nat) (σ : L2.St) (H1 : Hp) (Q : VK) : Prop := ∀ D, H1 D = none → ∃ W : Nat → Nat → Hp → Prop, (∃ m, W 0 m (upd H1 D (.lst []))) ∧ ∀ i m H, W i m H →
  (J.stop i H ∧ Q (.ref D) H) ∨ (J.go i H ∧ ∃ Nx : Hp → Prop, (∀ H', Nx H' → ∃ m', m' < m ∧ W (i + 1) m' H') ∧ ∀ x H', J.yld i H x H' → g x (wipe σ vs) H' fun σ2 H2 => wipe σ2 vs = wipe σ vs ∧ tt σ2 H2 fun b H3 =>
    if b = true then wi1 σ2 H3 fun J1 H4 => Lc1W J1 g1 tt1 te vs1 σ2 H4 D Nx else Nx H3)
theorem tLc2_eq {wi wi1 : TI} {g g1 : TG} {tt tt1 : TT} {te : TE} {vs vs1 : List Nat} {σ : L2.St} {H : Hp} {Q : VK} : tLc2 wi g tt wi1 g1 tt1 te vs vs1 σ H Q = wi σ H (fun J H1 => Lc2W J g tt wi1 g1 tt1 te vs vs1 σ H1 Q) := rfl
theorem lc1_it {J : It} {n : Nat} {G : Hp → Prop} {Y : Nat → Hp → V → Hp → Prop} (w : Walk J n G Y) {g : TG} {tt : TT} {te : TE} {vs : List Nat} {σ : L2.St} {H1 : Hp} {D : Addr} {Nx : Hp → Prop} (P : Nat → Hp → Prop) (h0 : P 0 H1) (hG : ∀ i H, i ≤ n → P i H → G H)
    (hs : ∀ i x H H', i < n → P i H → Y i H x H' → g x (wipe σ vs) H' fun σ2 H2 => wipe σ2 vs = wipe σ vs ∧ tt σ2 H2 fun b H3 =>
      if b = true then te σ2 H3 fun y H4 => ∃ acc, H4 D = some (.lst acc) ∧ acc.length < sizeLine ∧ P (i + 1) (upd H4 D (.lst (acc ++ [y]))) else P (i + 1) H3) (hd : ∀ H, P n H → Nx H) : Lc1W J g tt te vs σ H1 D Nx := by
  refine ⟨fun i m H => m = n - i ∧ i ≤ n ∧ P i H, ⟨n, by simp, Nat.zero_le _, h0⟩, ?_⟩
  rintro i m H ⟨rfl, hi, p⟩
  have q := hG i H hi p
  by_cases hlt : i < n
  · exact .inr ⟨w.goes i H hlt q, P (i + 1), fun H' p' => ⟨n - (i + 1), by omega, rfl, hlt, p'⟩, fun x H' y => hs i x H H' hlt p (w.yields i H x H' hlt q y)⟩
  · have e : i = n := by omega
    subst e
    exact .inl ⟨w.stops H q, hd H p⟩
theorem lc2_it {J : It} {n : Nat} {G : Hp → Prop} {Y : Nat → Hp → V → Hp → Prop} (w : Walk J n G Y) {g : TG} {tt : TT} {wi1 : TI} {g1 : TG} {tt1 : TT} {te : TE} {vs vs1 : List Nat} {σ : L2.St} {H1 : Hp} {Q : VK} (P : Addr → Nat → Hp → Prop) (h0 : ∀ D, H1 D = none → P D 0 (upd H1 D (.lst [])))
    (hG : ∀ D i H, i ≤ n → P D i H → G H)
    (hs : ∀ D i x H H', H1 D = none → i < n → P D i H → Y i H x H' → g x (wipe σ vs) H' fun σ2 H2 => wipe σ2 vs = wipe σ vs ∧ tt σ2 H2 fun b H3 =>
      if b = true then wi1 σ2 H3 fun J1 H4 => Lc1W J1 g1 tt1 te vs1 σ2 H4 D (P D (i + 1)) else P D (i + 1) H3) (hd : ∀ D H, H1 D = none → P D n H → Q (.ref D) H) : Lc2W J g tt wi1 g1 tt1 te vs vs1 σ H1 Q := by
  intro D hD
  refine ⟨fun i m H => m = n - i ∧ i ≤ n ∧ P D i H, ⟨n, by simp, Nat.zero_le _, h0 D hD⟩, ?_⟩
  rintro i m H ⟨rfl, hi, p⟩
  have q := hG D i H hi p
  by_cases hlt : i < n
  · exact .inr ⟨w.goes i H hlt q, P D (i + 1), fun H' p' => ⟨n - (i + 1), by omega, rfl, hlt, p'⟩, fun x H' y => hs D i x H H' hD hlt p (w.yields i H x H' hlt q y)⟩
  · have e : i = n := by omega
    subst e
    exact .inl ⟨w.stops H q, hd D H hD p⟩
/-! ### == of two dicts of data under the same keys -/
inductive HitsD (K : PySem.W.Frag) (H : Hp) (kb : List (Key × V)) : List (Key × V) → Bool → Prop
  | nil : HitsD K H kb [] true
  | hit {k : Key} {v y : V} {d e : PyData} {r : List (Key × V)} {b : Bool} : valV kb k = some y → Dp K H v d → Dp K H y e → SeqAt.shaped d = true → SeqAt.shaped e = true → HitsD K H kb r b → HitsD K H kb ((k, v) :: r) (PyData.eqv d e && b)
theorem hitsD_run {X : Cx} {pins : List (Addr × Obj)} {σ : L2.St} {H : Hp} {s : Shared} (I : Inv X pins σ H s) {A : Around} (hu : A.units + 64 < cLine) {kb : List (Key × V)} {vb : List (Key × Value)} (rb : KV kb vb) : ∀ {ka : List (Key × V)} {r : Bool} {va : List (Key × Value)}, HitsD X.K H kb ka r → KV ka va → PySem.W.KeqHitsP X.prog X.w A s vb va r
  | _, _, _, .nil, .nil => .nil
  | _, _, _, .hit (k := k) (d := d) (e := e) hv hd he sd se t, .cons (b := kv) ⟨e1, r1⟩ rt => by
    have rr := rb.val k
    rw [hv] at rr
    obtain ⟨u, hu2, ru⟩ := rr.some_of
    obtain ⟨as, q1⟩ := Dp.reads I d _ _ hd r1
    obtain ⟨bs, q2⟩ := Dp.reads I e _ _ he ru
    obtain ⟨key, v⟩ := kv
    have e1 : k = key := e1
    subst e1
    exact .hit hu2 (fun E Q q => SeqAt.eqBoolOverData _ _ _ _ _ _ _ _ _ _ _ _ q1 q2 (SeqAt.canLay_of_shaped sd) (SeqAt.canLay_of_shaped se) (SeqAt.room_of_shaped sd hu) q) (hitsD_run I hu rb t rt)
def rEqK (K : PySem.W.Frag) : R2 := fun x y H Q => ∃ (a b : Addr) (ka kb : List (Key × V)) (r : Bool), x = .ref a ∧ y = .ref b ∧ H a = some (.dK ka) ∧ H b = some (.dK kb) ∧ ka.length = kb.length ∧ HitsD K H kb ka r ∧ Q (.bl r) H
theorem op_eqK {X : Cx} (hu : X.A.units + 65 < cLine) : OpR X (compareOp .Eq) (rEqK X.K) := by
  intro pins s σ H x y v u Q I rx ry h
  obtain ⟨a, b, ka, kb, r, rfl, rfl, ha, hb, hl, hh, q⟩ := h
  cases (show v = Value.ref a from rx)
  cases (show u = Value.ref b from ry)
  obtain ⟨_, ya, va, ra, da⟩ := dk_of I.hok ha
  obtain ⟨_, yb, vb, rb, db⟩ := dk_of I.hok hb
  refine PySem.W.rcP_dicts (knd := mixKind X.prog X.w) (r := r) ya yb da db (by omega) (fun _ => hitsD_run I (A := X.A.in1) (by show X.A.units + 1 + 64 < cLine; omega) rb hh ra) _ _ ?_
  have e : va.length = vb.length := by rw [← ra.length, ← rb.length]; exact hl
  have e2 : (va.length == vb.length && r) = r := by rw [e, beq_self_eq_true, Bool.true_and]
  rw [e2]
  exact ⟨.bl r, H, I, rfl, q⟩
theorem pa_starK {X : Cx} {e : Expr} {es : List Expr} {te : TE} {t : TA} {p : Pos} (K : PySem.W.Frag) (h : X.K = K) (he : PE X e te) (hr : PA X es t) (hs : starEach (.Starred e p :: es) X.env = (true, eval e X.env) :: starEach es X.env := by rfl) : PA X (.Starred e p :: es) (StX.tStar K te t) := by
  subst h
  exact StX.pa_star he hr hs
end XX

set_option maxRecDepth 100000
set_option maxHeartbeats 4000000
namespace XX
open PySem PySem.Spec PyProof.Rows L2
/-! ### methods of built-ins where the frozen part is told (within try and except) -/
end XX

set_option maxRecDepth 100000
set_option maxHeartbeats 4000000
namespace XX
open PySem PySem.Spec PyProof.Rows L2
/-! ### defs that may raise, called outside of try too -/
section
variable {P : Program} {w : World} {K : PySem.W.Frag} {mg : Str → Option Value} {base : Heap}
end
section
variable {X : Cx} {CX : CXT} {k : Nat} {x : Str} {ps : List Str} {sp : Sp} {p pos : Pos} {e : Expr} {es : List Expr} {t : TA} {E : L2.St → XK}
end
/-! ### dict comprehensions -/
def DcW (J : It) (g : TG) (tt : TT) (tk tv : TE) (vs : List Nat) (σ : L2.St) (H1 : Hp) (Q : VK) : Prop := ∀ D, H1 D = none → ∃ W : Nat → Nat → Hp → Prop, (∃ m, W 0 m (upd H1 D (.dK []))) ∧ ∀ i m H, W i m H →
  (J.stop i H ∧ Q (.ref D) H) ∨ (J.go i H ∧ ∃ Nx : Hp → Prop, (∀ H', Nx H' → ∃ m', m' < m ∧ W (i + 1) m' H') ∧ ∀ x H', J.yld i H x H' → g x (wipe σ vs) H' fun σ2 H2 => wipe σ2 vs = wipe σ vs ∧ tt σ2 H2 fun b H3 =>
    if b = true then tk σ2 H3 fun y H4 => tv σ2 H4 fun z H5 => ∃ kvs k, y = kV k ∧ H5 D = some (.dK kvs) ∧ kvs.length < sizeLine ∧ Nx (upd H5 D (.dK (putK kvs k z))) else Nx H3)
theorem tDc_eq {wi : TI} {g : TG} {tt : TT} {tk tv : TE} {vs : List Nat} {σ : L2.St} {H : Hp} {Q : VK} : tDc wi g tt tk tv vs σ H Q = wi σ H (fun J H1 => DcW J g tt tk tv vs σ H1 Q) := rfl
theorem dcw_it {J : It} {n : Nat} {G : Hp → Prop} {Y : Nat → Hp → V → Hp → Prop} (w : Walk J n G Y) {g : TG} {tt : TT} {tk tv : TE} {vs : List Nat} {σ : L2.St} {H1 : Hp} {Q : VK} (P : Addr → Nat → Hp → Prop) (h0 : ∀ D, H1 D = none → P D 0 (upd H1 D (.dK [])))
    (hG : ∀ D i H, i ≤ n → P D i H → G H)
    (hs : ∀ D i x H H', H1 D = none → i < n → P D i H → Y i H x H' → g x (wipe σ vs) H' fun σ2 H2 => wipe σ2 vs = wipe σ vs ∧ tt σ2 H2 fun b H3 =>
      if b = true then tk σ2 H3 fun y H4 => tv σ2 H4 fun z H5 => ∃ kvs k, y = kV k ∧ H5 D = some (.dK kvs) ∧ kvs.length < sizeLine ∧ P D (i + 1) (upd H5 D (.dK (putK kvs k z))) else P D (i + 1) H3) (hd : ∀ D H, H1 D = none → P D n H → Q (.ref D) H) : DcW J g tt tk tv vs σ H1 Q := by
  intro D hD
  refine ⟨fun i m H => m = n - i ∧ i ≤ n ∧ P D i H, ⟨n, by simp, Nat.zero_le _, h0 D hD⟩, ?_⟩
  rintro i m H ⟨rfl, hi, p⟩
  have q := hG D i H hi p
  by_cases hlt : i < n
  · exact .inr ⟨w.goes i H hlt q, P D (i + 1), fun H' p' => ⟨n - (i + 1), by omega, rfl, hlt, p'⟩, fun x H' y => hs D i x H H' hD hlt p (w.yields i H x H' hlt q y)⟩
  · have e : i = n := by omega
    subst e
    exact .inl ⟨w.stops H q, hd D H hD p⟩
end XX

set_option maxRecDepth 100000
set_option maxHeartbeats 4000000
namespace XX
open PySem PySem.Spec PyProof.Rows L2
/-! ### dict comprehensions whose keys are tuples -/
section
variable {X : Cx}
/-- D[b] = v by a comprehension, b a tuple of ints and texts -/
theorem put_tup {pn : List (Addr × Obj)} {J : L2.St} {hp : Hp} {sh : Shared} {Er : Value → Shared → Prop} {D b : Addr} {kt : List (List Key × V)} {key : List Key} {val : V} {u r : Value} {R : Unit → Shared → Prop} (units : X.A.units < cLine) (I : Inv X pn J hp sh)
    (atD : hp D = some (.dT kt)) (atb : hp b = some (.tup (key.map kV))) (few : kt.length < sizeLine) (ru : RelV (.ref b) u) (rv : RelV val r) (go : ∀ sh', Inv X pn J (upd hp D (.dT (putK kt key val))) sh' → R () sh') : wpAny (model X.prog X.w) X.A (dictSet D u r) R Er sh := by
  cases ru
  obtain ⟨_, low, xs, rel, dd⟩ := dt_of I.hok atD
  have e0 := Paired.length rel
  have e1 := length_putK kt key val
  refine wpAny_dictSet_heap (hsz := by omega) (show (tupleKind (mixKind X.prog X.w)).room X.A from units) (key_of I.hok atb) dd fun hx ddx same => go _ ?_
  obtain ⟨ob, es, ep, ho, p2, p3, p4, _, p5⟩ := ddx
  refine d_write I (by rw [atD]; exact True.intro) same ⟨ob, ho⟩ ⟨by omega, low, _, (rel.put key atb rv).keeps fun c ys ec => ?_, ob, es, ep, ho, p2, p3, p4, p5⟩
  exact (upd_ne (ne_of ec atD (fun z => nomatch z))).trans ec
/-- the turns of such a comprehension, D the new dict -/
def DcT (J : It) (g : TG) (tt : TT) (tk tv : TE) (vs : List Nat) (σ : L2.St) (H1 : Hp) (Q : VK) : Prop := ∀ D, H1 D = none → ∃ W : Nat → Nat → Hp → Prop, (∃ m, W 0 m (upd H1 D (.dT []))) ∧ ∀ i m H, W i m H →
  (J.stop i H ∧ Q (.ref D) H) ∨ (J.go i H ∧ ∃ Nx : Hp → Prop, (∀ H', Nx H' → ∃ m', m' < m ∧ W (i + 1) m' H') ∧ ∀ x H', J.yld i H x H' → g x (wipe σ vs) H' fun σ2 H2 => wipe σ2 vs = wipe σ vs ∧ tt σ2 H2 fun b H3 =>
    if b = true then tk σ2 H3 fun y H4 => tv σ2 H4 fun z H5 => ∃ kvs k b, y = .ref b ∧ H5 D = some (.dT kvs) ∧ H5 b = some (.tup (k.map kV)) ∧ kvs.length < sizeLine ∧ Nx (upd H5 D (.dT (putK kvs k z))) else Nx H3)
def tDcT (wi : TI) (g : TG) (tt : TT) (tk tv : TE) (vs : List Nat) : TE := fun σ H Q => wi σ H fun J H1 => DcT J g tt tk tv vs σ H1 Q
theorem tDcT_eq {wi : TI} {g : TG} {tt : TT} {tk tv : TE} {vs : List Nat} {σ : L2.St} {H : Hp} {Q : VK} : tDcT wi g tt tk tv vs σ H Q = wi σ H (fun J H1 => DcT J g tt tk tv vs σ H1 Q) := rfl
theorem dct_it {J : It} {n : Nat} {G : Hp → Prop} {Y : Nat → Hp → V → Hp → Prop} (w : Walk J n G Y) {g : TG} {tt : TT} {tk tv : TE} {vs : List Nat} {σ : L2.St} {H1 : Hp} {Q : VK} (P : Addr → Nat → Hp → Prop) (h0 : ∀ D, H1 D = none → P D 0 (upd H1 D (.dT [])))
    (hG : ∀ D i H, i ≤ n → P D i H → G H)
    (hs : ∀ D i x H H', H1 D = none → i < n → P D i H → Y i H x H' → g x (wipe σ vs) H' fun σ2 H2 => wipe σ2 vs = wipe σ vs ∧ tt σ2 H2 fun b H3 =>
      if b = true then tk σ2 H3 fun y H4 => tv σ2 H4 fun z H5 => ∃ kvs k b, y = .ref b ∧ H5 D = some (.dT kvs) ∧ H5 b = some (.tup (k.map kV)) ∧ kvs.length < sizeLine ∧ P D (i + 1) (upd H5 D (.dT (putK kvs k z))) else P D (i + 1) H3)
    (hd : ∀ D H, H1 D = none → P D n H → Q (.ref D) H) : DcT J g tt tk tv vs σ H1 Q := by
  intro D hD
  refine ⟨fun i m H => m = n - i ∧ i ≤ n ∧ P D i H, ⟨n, by simp, Nat.zero_le _, h0 D hD⟩, ?_⟩
  rintro i m H ⟨rfl, hi, p⟩
  have q := hG D i H hi p
  by_cases hlt : i < n
  · exact .inr ⟨w.goes i H hlt q, P D (i + 1), fun H' p' => ⟨n - (i + 1), by omega, rfl, hlt, p'⟩, fun x H' y => hs D i x H H' hD hlt p (w.yields i H x H' hlt q y)⟩
  · have e : i = n := by omega
    subst e
    exact .inl ⟨w.stops H q, hd D H hD p⟩
/-- what a block's frame may not be told of, kept while the block runs -/
theorem still {sh0 : Shared} {hp0 : Hp} {scope : Scope} {ce : Env} {fp : List Addr} {J : L2.St} {hp : Hp} {sh : Shared} (I : Inv (X.blk sh0 hp0 scope ce fp) [] J hp sh) (free : ∀ b ∈ fp, hp b = none) : ∀ b ∈ fp, FpOk (X.blk sh0 hp0 scope ce fp) [] hp b := fun b hb =>
  ⟨free b hb, (I.ok.exf b hb).1, I.ok.exfs b hb, .inl hb, (I.ok.exf b hb).2, fun p hp' => absurd (show p ∈ ([] : List (Addr × Obj)) ++ [] from hp') (by simp)⟩
/-- {k: v for target in iter if ..}, the keys tuples -/
theorem pe_dcT {kx vx tg iter : Expr} {ifs : List Expr} {scope : Scope} {own : List (Str × Nat)} {pos : Pos} {wi : TI} {g : TG} {tt : TT} {tk tv : TE} (units : X.A.units < cLine) (calm : X.calm = true) (nd : X.N.Nodup) (pi : PI X tg iter wi) (blk : BlkOk X.N X.env.scope scope own)
    (pg : ∀ (sh : Shared) (hp : Hp) (C : Addr) (cl : List (Str × Addr)) (fp : List Addr), PG (X.blk sh hp scope (compEnvC scope cl C X.env) fp) tg g) (pt : ∀ (sh : Shared) (hp : Hp) (C : Addr) (cl : List (Str × Addr)) (fp : List Addr), PTs (X.blk sh hp scope (compEnvC scope cl C X.env) fp) ifs tt)
    (pk : ∀ (sh : Shared) (hp : Hp) (C : Addr) (cl : List (Str × Addr)) (fp : List Addr), PE (X.blk sh hp scope (compEnvC scope cl C X.env) fp) kx tk) (pv : ∀ (sh : Shared) (hp : Hp) (C : Addr) (cl : List (Str × Addr)) (fp : List Addr), PE (X.blk sh hp scope (compEnvC scope cl C X.env) fp) vx tv)
    (fold : ∀ x, foldedSetIterable iter X.env x = pure x := by intro _; rfl) : PE X (.DictComp kx vx [⟨tg, iter, ifs, 0⟩] scope pos) (tDcT wi g tt tk tv (own.map (·.2))) := by
  refine ⟨fun pn sh J hp R I q => ?_⟩
  rw [arm_eval_DictComp]
  have cellsThere : ∀ nm ∈ scope.names, nm.2 = .free → ∃ c, X.env.cells.lookup nm.1 = some c := fun nm hn ef => (blk.free nm hn ef).elim (fun z => I.ok.has _ (.inl z)) fun z => I.ok.has _ (.inr z)
  refine wpAny_comprehension_free (use := none) rfl fold (closure_ok cellsThere) blk.kind (fun nm hn el => (blk.uniq nm hn).trans (congrArg some el)) (thn (pi.run pn sh J hp _ I q) fun xv sh1 hx => thn hx fun itv sh2 h2 => ?_)
  obtain ⟨it, fp, tn, Jt, hp2, rfl, I2, T, st2, ft, turns⟩ := h2
  refine wpAny_newObj_type (newEnv_comp ?_)
  obtain ⟨D, eD⟩ : ∃ D, D = sh2.heap.objs.size := ⟨_, rfl⟩
  have freeD : hp2 D = none := I2.hok.fresh (by rw [eD]; exact Nat.le_refl _)
  obtain ⟨W, ⟨m0, w0⟩, turn⟩ := turns D freeD
  obtain ⟨sh3, e3⟩ : ∃ sh3 : Shared, sh3 = { sh2 with heap := sh2.heap.push { cls := .type "dict", data := .dict #[] } } := ⟨_, rfl⟩
  have heap3 : sh3.heap = sh2.heap.push { cls := .type "dict", data := .dict #[] } := by rw [e3]
  obtain ⟨hp3, eh3⟩ : ∃ hp3 : Hp, hp3 = upd hp2 D (.dT []) := ⟨_, rfl⟩
  have I3 : Inv X pn J hp3 sh3 := by
    rw [e3, eh3, eD]
    exact I2.laid (t' := sh2.toks) (fun b o e => Heap.get?_push_of_some _ e) (Nat.le_refl _) (dt_empty sh2.heap I2.big)
  have frame : ∀ b ∈ fp, FpOk X pn hp3 b ∧ b < sh3.heap.objs.size := fun b hb => by
    obtain ⟨o, ob, _⟩ := T.obj _ _ st2 b hb
    have lt := Heap.lt_size ob
    refine ⟨⟨?_, (ft b hb).2⟩, by rw [heap3, Heap.size_push]; exact Nat.lt_succ_of_lt lt⟩
    rw [eh3, upd_ne (by rw [eD]; exact Nat.ne_of_lt lt)]
    exact (ft b hb).1
  have nofp : ∀ b ∈ fp, hp3 b = none := fun b hb => (frame b hb).1.1
  have I4 := block_start I3 blk nd frame
  obtain ⟨cl, ecl⟩ : ∃ cl, cl = cellsFrom (sh3.heap.objs.size + 1) scope.names (cloFrom X.env.cells scope.names []) := ⟨_, rfl⟩
  obtain ⟨L, eL⟩ : ∃ L, L = sh3.heap.objs.size := ⟨_, rfl⟩
  rw [← ecl, ← eL] at I4
  have qg := pg sh3 hp3 L cl fp
  have qt := pt sh3 hp3 L cl fp
  have qk := pk sh3 hp3 L cl fp
  have qv := pv sh3 hp3 L cl fp
  have cL : (compEnvC scope cl L X.env).locals = L := rfl
  obtain ⟨sh4, e4⟩ : ∃ sh4 : Shared, sh4 = { sh3 with heap := pushCells (sh3.heap.push { cls := .type "dict", data := .dict #[] }) scope.names } := ⟨_, rfl⟩
  have st4 : tn 0 sh4.heap := T.keep _ _ _ (T.keep _ _ sh3.heap st2 fun b _ o e => by rw [heap3]; exact Heap.get?_push_of_some _ e) fun b _ o e => by rw [e4]; exact pushCells_keeps _ _ _ _ (Heap.get?_push_of_some _ e)
  rw [← e4] at I4
  have post : codeAny (model X.prog X.w) X.A (.compLoop (.DictComp kx vx [⟨tg, iter, ifs, 0⟩] scope pos) 0 (.ref it) (.ref D) (compEnvC scope cl L X.env)) (compPost (model X.prog X.w) X.A X.xe none (EP X pn J R) (.ref D) L) sh4 := by
    refine compLoop_anyD (fun n t => ∃ i hq, Inv (X.blk sh3 hp3 scope (compEnvC scope cl L X.env) fp) [] (wipe J (own.map (·.2))) hq t ∧ tn i t.heap ∧ (∀ b ∈ fp, hq b = none) ∧ W i n hq) ?_ m0 ⟨0, hp3, I4, st4, nofp, by rw [eh3]; exact w0⟩
    rintro n t5 ⟨i, hp5, I5, st5, n5, w5⟩
    rcases turn i n hp5 w5 with ⟨stop, fin⟩ | ⟨goes, Nx, onward, step⟩
    · refine thnF (T.done (X.blk sh3 hp3 scope (compEnvC scope cl L X.env) fp) rfl rfl rfl calm i [] t5 _ hp5 (fun _ _ => False) I5 (still I5 n5) st5 stop) fun r t6 ⟨er, I6⟩ => ?_
      subst er
      have back : Inv X pn J hp5 t6 := I3.call' (ch := fp) I6.os I6.base I6.hok I6.bare fun b hb => ⟨(frame b hb).1.2.2.2.1, (frame b hb).1.2.1, (frame b hb).1.2.2.2.2.1, (frame b hb).1.2.2.2.2.2⟩
      have freeL : hp5 L = none := I6.free
      obtain ⟨m, hm, _⟩ := I6.loc
      have hm : t6.heap.Ns L m := hm
      obtain ⟨f0, f1, f2, f3, f4, f5⟩ := I3.fpOk (b := L) (by rw [eL]; exact Nat.le_refl _) freeL
      exact ⟨m, hm, fun hx sb => ⟨.ref D, hp5, back.turned (t' := t6.toks) (fun b o hb e => (sb.2 b hb).trans e) f0 f1 f3 f4 f5, rfl, fin⟩⟩
    · refine thnF (T.item (X.blk sh3 hp3 scope (compEnvC scope cl L X.env) fp) rfl rfl rfl calm i [] t5 _ hp5 (fun _ _ => False) I5 (still I5 n5) st5 goes) fun r t6 ⟨u, er, h6⟩ => ?_
      subst er
      refine thnF h6 fun _ t7 ⟨x, hp7, I7, r7, y7, st7, n7⟩ => ?_
      refine thnF (qg.run _ t7 _ hp7 x u _ (I7.pinned (still I7 n7) (T.obj _ _ st7)) r7 (step x hp7 y7)) fun _ t8 ⟨σ8, hp8, I8, hw, q8⟩ => ?_
      refine thnF (qt.run _ t8 σ8 hp8 _ I8 q8) fun c t9 ⟨hp9, I9, q9⟩ => ?_
      have again : ∀ {t' : Shared} {h' : Hp}, Inv (X.blk sh3 hp3 scope (compEnvC scope cl L X.env) fp) ([] ++ pinsAt fp t7.heap) σ8 h' t' → Nx h' → ∃ m, m < n ∧ ∃ i hq, Inv (X.blk sh3 hp3 scope (compEnvC scope cl L X.env) fp) [] (wipe J (own.map (·.2))) hq t' ∧ tn i t'.heap ∧ (∀ b ∈ fp, hq b = none) ∧ W i m hq := fun {t' h'} I' nx => by
        obtain ⟨m', less, w'⟩ := onward h' nx
        have pinned : ∀ b ∈ fp, ∀ o, t7.heap.get? b = some o → t'.heap.get? b = some o ∧ h' b = none := fun b hb o e => ⟨(I'.pin (b, o) (List.mem_append_right _ (List.mem_append_right _ (mem_pinsAt hb e)))).1, (I'.pin (b, o) (List.mem_append_right _ (List.mem_append_right _ (mem_pinsAt hb e)))).2.1⟩
        refine ⟨m', less, i + 1, h', (I'.unpinned (pins := [])).weak (by rw [← hw, wipe_length]) (fun j v e => ?_), T.keep _ _ _ st7 fun b hb o e => (pinned b hb o e).1, fun b hb => ?_, w'⟩
        · rw [← hw] at e
          exact (wipe_some e).1
        · obtain ⟨o, ob, _⟩ := T.obj _ _ st7 b hb
          exact (pinned b hb o ob).2
      cases c with
      | false =>
        simp only [Bool.false_eq_true, if_false] at q9 ⊢
        exact again I9 q9
      | true =>
        simp only [if_true] at q9 ⊢
        refine thnF (qk.run _ t9 σ8 hp9 _ I9 q9) fun z t10 ⟨yk, hp10, I10, r10, q10⟩ => ?_
        refine thnF (qv.run _ t10 σ8 hp10 _ I10 q10) fun z2 t11 ⟨yv, hp11, I11, r11, kt, key, b, ek, atD, atb, few, nx⟩ => ?_
        subst ek
        exact put_tup (X := X.blk sh3 hp3 scope (compEnvC scope cl L X.env) fp) units I11 atD atb few r10 r11 fun t12 I12 => again I12 nx
  rw [← eD, ← e3, ← ecl, ← eL, ← e4]
  exact codeAny_compStart_dict post (T.self X.A 0 _ _ _ st4 post)
end
end XX

set_option maxRecDepth 100000
set_option maxHeartbeats 4000000
namespace YY
open PySem PySem.Spec PyProof.Rows L2 XX
local macro_rules | `(tactic| walk_at "wp") => `(tactic| simp only [tPar3, rIndex, tAug, rExt2, tSeq, tNext, tAsg, tPar, gName, tCB, tCons, tNil, tVar, tC, tOp, tUn, rI, rI0, rU, tLst, tTup, tFor_eq, iRng1, iRng2, iList, iTup, tRet, tRetN, tDrop, tIfS, tTest, tB, tAnd, tOr, tNot, tIf, tAndV, tOrV, tNotV, tCall, tBM, tBM0, rIxL, rIxT, rAppend, tLc_eq, gSub, rSetL, rEq, rNe, rMulS, rIxS, tRevT, gTup, gCons, gNil, wipe, tYes, LcEnd, tDisp, tPairs, tChain, tSl, tPart, tNoPart, rSlT, rSlL, rCatT, rCat, rRep, rIsD, V.ty.injEq, iZipB, tDNewK, tXf, wMA, wAs, rLenK, tLenSetS, rReprE, tVeI, tOst, tErr, tMkO, sFld, tFld, rIsE2, tMakeS, rListStr, tDNotIn, tDIn, tDGet, rSetD, gSub, iEnumA, rIxD, iStr, rIn, rEqI, rLenI, tIxI, rSetI, rSortedSet, rEqK, rEqV, tCallS, tDc_eq, tDcT_eq, tLc2_eq, tMeth, tMethX, WE, tM1, StX.tMakeR, rCatA, StX.tMakeR, StX.tStar, tLock, tLockE, iItems, iKeys,
  cxOf_K, cxOf_noxK, L2.start, List.map_cons, List.map_nil, List.length_cons, List.length_nil, Nat.reduceAdd, Nat.reduceSub, List.replicate_succ, List.replicate_zero, List.replicate, List.cons_append, List.nil_append, List.getElem?_cons_zero, List.getElem?_cons_succ, List.set_cons_zero, List.set_cons_succ, List.append_nil,
  Option.some.injEq, V.int.injEq, V.ref.injEq, V.bl.injEq, V.str.injEq, List.cons.injEq, and_true, true_and, exists_eq_left', exists_eq_left, exists_and_left, exists_and_right, exists_const, bool_ite_true, bool_ite_false, dec_ite, ndec_ite, reduceCtorEq, false_or, or_false, false_and, and_false, decide_eq_true_eq, and_assoc, reduceIte, ite_true, ite_false, Int.zero_add])


abbrev sCls : Stmt := inClass (topS 35) 11
abbrev sChg : Stmt := inClass (topS 35) 13
/-! ### classes -/
def clsStep (size : Nat) (xss : List (List Int)) : List (List Int) := xss.flatMap fun st => (List.range size).map fun v => st ++ [((v : Nat) : Int)]
def clsOf (size : Nat) : Nat → List (List Int)
  | 0 => [[]]
  | n + 1 => clsStep size (clsOf size n)
theorem clsStep_take {size : Nat} {xss : List (List Int)} {i : Nat} {st : List Int} (h : xss[i]? = some st) : clsStep size (xss.take (i + 1)) = clsStep size (xss.take i) ++ (List.range size).map fun v => st ++ [((v : Nat) : Int)] := by
  unfold clsStep
  rw [List.take_succ, h, List.flatMap_append]
  simp
theorem clsStep_len {size : Nat} (xss : List (List Int)) : (clsStep size xss).length = xss.length * size := by
  unfold clsStep
  induction xss with
  | nil => simp
  | cons a l ih =>
    rw [List.flatMap_cons, List.length_append, ih, List.length_map, List.length_range, List.length_cons, Nat.succ_mul]
    omega
theorem clsOf_len (s : Nat) : ∀ n, (clsOf s n).length = s ^ n
  | 0 => rfl
  | n + 1 => by rw [clsOf, clsStep_len, clsOf_len s n, Nat.pow_succ]
theorem clsOf_few {s n : Nat} (hs : s ≤ 3) (hn : n ≤ 2) : (clsOf s n).length ≤ 9 := by
  rw [clsOf_len]
  exact Nat.le_trans (Nat.pow_le_pow_left hs n) (Nat.le_trans (Nat.pow_le_pow_right (by decide) hn) (by decide))
theorem clsOf_mem (s : Nat) : ∀ n, ∀ st ∈ clsOf s n, st.length = n
  | 0, st, h => by
    rw [clsOf, List.mem_singleton] at h
    rw [h]
    rfl
  | n + 1, st, h => by
    rw [clsOf, clsStep, List.mem_flatMap] at h
    obtain ⟨s0, h0, h1⟩ := h
    obtain ⟨v, _, rfl⟩ := List.mem_map.mp h1
    rw [List.length_append, clsOf_mem s n s0 h0]
    rfl
/-- tuples of ints, each at its address -/
def TupR (H : Hp) (ps : List Addr) (xss : List (List Int)) : Prop := Paired (fun p xs => H p = some (.tup (xs.map V.int))) ps xss
theorem TupR.same {H G : Hp} {ps : List Addr} {xss : List (List Int)} (e : Same H G) (h : TupR H ps xss) : TupR G ps xss := L2.Paired.mapP h fun _ _ h => e _ _ h
theorem TupR.mut {H : Hp} {D : Addr} {as : List V} {o : HO} {ps : List Addr} {xss : List (List Int)} (e : H D = some (.lst as)) (h : TupR H ps xss) : TupR (upd H D o) ps xss := L2.Paired.mapP h fun p xs h => by
  rw [upd_ne (fun z => by rw [z, e] at h; cases h)]
  exact h
theorem TupR.get {H : Hp} : ∀ {ps : List Addr} {xss : List (List Int)} {i : Nat} {v : V}, TupR H ps xss → (ps.map V.ref)[i]? = some v → ∃ p st, v = .ref p ∧ xss[i]? = some st ∧ H p = some (.tup (st.map V.int))
  | _, _, i, v, .nil, e => by simp at e
  | _, _, 0, v, .cons h t, e => by
    cases e
    exact ⟨_, _, rfl, rfl, h⟩
  | _, _, i + 1, v, .cons h t, e => by
    rw [List.map_cons, List.getElem?_cons_succ] at e
    obtain ⟨p, st, h1, h2, h3⟩ := TupR.get t e
    exact ⟨p, st, h1, by rw [List.getElem?_cons_succ]; exact h2, h3⟩
theorem TupR.len {H : Hp} {ps : List Addr} {xss : List (List Int)} (h : TupR H ps xss) : ps.length = xss.length := by
  unfold TupR at h
  exact h.length
theorem back_none {H G : Hp} {p : Addr} (e : Same H G) (h : G p = none) : H p = none := by
  cases q : H p with
  | none => rfl
  | some o =>
    rw [e _ _ q] at h
    cases h
theorem pi_listK {X : Cx} {tg e : Expr} {te : TE} (K : PySem.W.Frag) (h : X.K = K) (he : PE X e te) : PI X tg e (iList K te) := by
  subst h
  exact pi_list he
theorem sqT_mutT {K : PySem.W.Frag} {H : Hp} {a D : Addr} {xs : List V} {kvs : List (List Key × V)} {o : HO} (h : SqT K H a xs) (e : H D = some (.dT kvs)) : SqT K (upd H D o) a xs := by
  rcases h with (h | ⟨u, h⟩) | h
  · exact .inl (.inl (by rw [upd_ne (fun z => by rw [z, e] at h; cases h)]; exact h))
  · exact .inl (.inr ⟨u, by rw [upd_ne (fun z => by rw [z, e] at h; cases h)]; exact h⟩)
  · exact .inr h
theorem cut_to (xs : List V) {m : Nat} (h : m ≤ xs.length) : cutV xs none (some (m : Int)) = xs.take m := by
  have e1 : HT.sIx xs.length xs.length (some (m : Int)) = m := by
    show (if ((m : Nat) : Int) < 0 then (((m : Nat) : Int) + (xs.length : Int)).toNat else min ((m : Nat) : Int).toNat xs.length) = m
    rw [if_neg (by omega)]
    omega
  have e3 : HT.sIx xs.length 0 none = 0 := rfl
  unfold cutV
  rw [e1, e3, Nat.sub_zero, List.drop_zero]
theorem cut_from (xs : List V) {m : Nat} (h : m ≤ xs.length) : cutV xs (some (m : Int)) none = xs.drop m := by
  have e1 : HT.sIx xs.length 0 (some (m : Int)) = m := by
    show (if ((m : Nat) : Int) < 0 then (((m : Nat) : Int) + (xs.length : Int)).toNat else min ((m : Nat) : Int).toNat xs.length) = m
    rw [if_neg (by omega)]
    omega
  have e3 : HT.sIx xs.length xs.length none = xs.length := rfl
  unfold cutV
  rw [e1, e3, List.take_of_length_le (by rw [List.length_drop]; omega)]
theorem inl_inj : ∀ {a b : List Int}, (a.map Sum.inl : List Key) = b.map Sum.inl → a = b
  | [], [], _ => rfl
  | [], _ :: _, h => nomatch h
  | _ :: _, [], h => nomatch h
  | x :: a, y :: b, h => by
    rw [List.map_cons, List.map_cons] at h
    injection h with h1 h2
    injection h1 with h1
    rw [h1, inl_inj h2]
theorem sl_tupAK {X : Cx} (K : PySem.W.Frag) (e : X.K = K) : SlR X (rSlA K) := by
  subst e
  exact sl_tupA
/-- of an instance (that may be in the making): its registers and its size -/
def RegsAt (K : PySem.W.Frag) (C : Addr) (H : Hp) (x : Addr) (ws : List Str) (s : Nat) : Prop := ∃ (dx : Addr) (fs : List (Str × V)) (wr : Addr), H x = some (.ins C dx fs) ∧ fs.lookup ("registers" : Str) = some (.ref wr) ∧ fs.lookup ("size" : Str) = some (.int (s : Nat)) ∧ fs.lookup ("classes" : Str) = none ∧ fs.lookup ("_changed_at" : Str) = none ∧ SqT K H wr (ws.map V.str)
theorem RegsAt.same {K : PySem.W.Frag} {C x : Addr} {H G : Hp} {ws : List Str} {s : Nat} (e : Same H G) (h : RegsAt K C H x ws s) : RegsAt K C G x ws s := by
  obtain ⟨dx, fs, wr, h1, h2, h3, h4, h5, h6⟩ := h
  exact ⟨dx, fs, wr, e _ _ h1, h2, h3, h4, h5, Same.sqT e h6⟩
section
variable {P : Program} {w : World} {K : PySem.W.Frag} {mg : Str → Option Value} {base : Heap}
def spCls (K : PySem.W.Frag) (C : Addr) : Sp := fun vs H Q _ => ∃ (x : Addr) (ws : List Str) (s : Nat), vs = [.ref x] ∧ RegsAt K C H x ws s ∧ ws.length ≤ 2 ∧ s ≤ 3 ∧ ∀ D G ps, Same H G → H D = none → G D = some (.lst (ps.map V.ref)) → TupR G ps (clsOf s ws.length) → Q (.ref D) G
theorem scCls : FnScope ["self", "found", "_", "start", "value"] ["self"] (defScope sCls) := ⟨rfl, rfl, rfl, by decide +kernel, rfl, by decide +kernel, by decide +kernel⟩
theorem c_cls {C : Addr} (D : DefM K C "classes" "Program.classes" sCls ["self"]) (n_range : mg "range" = none) (pc : ProgC K C) : MtC P w K mg base CX0 1 C "classes" ["self"] (spCls K C) := by
  refine D.ok scCls (fun vs H Q E h => ?_) (fun f cdv A outer s H vs Q E hr h => ?_)
  · obtain ⟨x, ws, s, rfl, _⟩ := h
    rfl
  · obtain ⟨x, ws, s, rfl, hp, hw2, hs3, k⟩ := h
    have sc := scCls
    refine ⟨_, (pss_cut (ps_set (i := 1) sc.nd rfl (Or.inl rfl) (pe_lst (pa_cons (pe_tup pa_nil) pa_nil)))
 (pss_cut (ps_for PassesOwn.never rfl (pi_tup (pe_fld (pv 0) rfl)) (pg_name (i := 2) sc.nd rfl (Or.inl rfl))
   (pss_one (ps_setLc2 (i := 1) (own := [("start", 3), ("value", 4)]) (vs1 := [4]) (g := gName 3) (tt := tYes) (g1 := gName 4) (tt1 := tYes) rfl sc.nd rfl rfl rfl (pi_list (pv 1)) (blkOk_by (N := ["self", "found", "_", "start", "value"]) (sc := defScope sCls) (by decide +kernel)) (by decide) (fun _ _ _ _ _ => pg_name (i := 3) sc.nd rfl (Or.inl rfl)) (fun _ _ _ _ _ => pts_nil) (fun _ _ _ _ _ => pi_range1 (by rfl) n_range (pa_cons (pe_fldK K rfl (pv 0) rfl) pa_nil)) (fun _ _ _ _ _ => pg_name (i := 4) sc.nd rfl (Or.inl rfl)) (fun _ _ _ _ _ => pts_nil) (fun _ _ _ _ _ => pe_tup (pa_starK K rfl (pv 3) (pa_cons (pv 4) pa_nil))))))
 (pss_one (ps_ret (pv 1))))), ?_⟩
    obtain ⟨dx, fs, wr, hx, hf1, hf2, _, _, hwr⟩ := _root_.id hp
    refine ⟨fun τ G => ∃ l p, τ = [some (V.ref x), some (V.ref l), none, none, none] ∧ Same H G ∧ H l = none ∧ G l = some (.lst [.ref p]) ∧ G p = some (.tup []), ?_, ?_⟩
    · walk_at "wp"
      have hz := sizeLine_eq
      exact ⟨by omega, fun p hp => ⟨by omega, fun l hl => ⟨(same_new hp).trans (same_new hl), back_none (same_new hp) hl, p, upd_same, same_new hl _ _ upd_same⟩⟩⟩
    rintro τ G ⟨l, p, rfl, g1, hl, hl1, hp1⟩
    have hz := sizeLine_eq
    refine ⟨fun τ G => ∃ l ps v2, τ = [some (V.ref x), some (V.ref l), v2, none, none] ∧ Same H G ∧ H l = none ∧ G l = some (.lst (ps.map V.ref)) ∧ TupR G ps (clsOf s ws.length), ?_, ?_⟩
    · walk_at "wp"
      refine ⟨C, dx, _, g1 _ _ hx, pc.cls, pc.n1, _, hf1, _, rfl, ⟨_, Same.sqT g1 hwr⟩, ?_⟩
      refine loop_it (walk_tup (xs := ws.map V.str)) (fun i τ G2 => ∃ l ps v2, τ = [some (V.ref x), some (V.ref l), v2, none, none] ∧ Same H G2 ∧ H l = none ∧ G2 l = some (.lst (ps.map V.ref)) ∧ TupR G2 ps (clsOf s i)) ⟨l, [p], none, rfl, g1, hl, hl1, .cons hp1 .nil⟩ (fun i τ G _ ⟨_, _, _, _, h, _⟩ => Same.sqT h hwr) ?_ ?_
      · rintro i y τ F F' hi ⟨l2, ps, v2, rfl, f1, hl2, hl3, hps⟩ ⟨rfl, hy⟩
        rw [List.length_map] at hi
        walk_at "wp"
        have hfew : (clsOf s i).length ≤ 9 := clsOf_few hs3 (by omega)
        have elen : ps.length = (clsOf s i).length := hps.len
        refine ⟨⟨_, SqL.of hl3⟩, lc2_it walk_list (fun D j G2 => Same F' G2 ∧ ∃ qs, G2 D = some (.lst (qs.map V.ref)) ∧ TupR G2 qs (clsStep s ((clsOf s i).take j))) (fun D hD => ⟨same_new hD, [], upd_same, .nil⟩) (fun D j G2 _ h => SqL.of (h.1 _ _ hl3)) ?_ ?_⟩
        · rintro D j y2 B B' hD hj ⟨b1, qs, hq, hqs⟩ ⟨rfl, hy2⟩
          rw [List.length_map] at hj
          obtain ⟨pj, st, rfl, hst2, hpj⟩ := hps.get hy2
          walk_at "wp"
          refine ⟨C, dx, _, (f1.trans b1) _ _ hx, pc.cls, pc.n2, _, hf2, (s : Int), rfl, by omega, by omega, ?_⟩
          rw [show ((s : Nat) : Int).toNat = s by omega]
          refine lc1_it (walk_range (lo := 0)) (fun m G3 => Same F' G3 ∧ ∃ qs, G3 D = some (.lst (qs.map V.ref)) ∧ TupR G3 qs (clsStep s ((clsOf s i).take j) ++ (List.range m).map fun v => st ++ [((v : Nat) : Int)])) ⟨b1, qs, hq, by rw [List.range_zero, List.map_nil, List.append_nil]; exact hqs⟩ (fun _ _ _ _ => True.intro) ?_ ?_
          · rintro m y3 R R' hm ⟨r1, ts, ht1, hts⟩ ⟨rfl, rfl⟩
            walk_at "wp"
            have hst1 := clsOf_mem s i st (List.mem_of_getElem? hst2)
            have hmin : min j (clsOf s i).length * s ≤ 9 * 3 := Nat.mul_le_mul (Nat.le_trans (Nat.min_le_right _ _) hfew) hs3
            refine ⟨st.map V.int, .inl (SqT.of (r1 _ _ hpj)), ?_, fun q hq => ⟨ts.map V.ref, same_new hq _ _ ht1, ?_, same_mut (r1.trans (same_new hq)) hD, ts ++ [q], by rw [upd_same, List.map_append]; rfl, ?_⟩⟩
            · rw [List.length_append, List.length_map, hst1]
              show i + 1 ≤ sizeLine
              omega
            · rw [List.length_map, hts.len, List.length_append, List.length_map, List.length_range, clsStep_len, List.length_take]
              omega
            · rw [List.range_succ, List.map_append, ← List.append_assoc]
              have hqD : q ≠ D := fun z => by
                rw [z, ht1] at hq
                cases hq
              refine Paired.snoc (TupR.mut (same_new hq _ _ ht1) (hts.same (same_new hq))) ?_
              rw [upd_ne hqD, List.map_append]
              exact upd_same
          · rintro R ⟨r1, ts, ht1, hts⟩
            refine ⟨r1, ts, ht1, ?_⟩
            rw [clsStep_take hst2]
            exact hts
        · rintro D B hD ⟨b1, qs, hq, hqs⟩
          rw [List.length_map, elen, List.take_length] at hqs
          exact ⟨D, rfl, f1.trans b1, back_none f1 hD, qs, hq, hqs⟩
      · rintro τ G2 ⟨l2, ps, v2, rfl, f1, hl2, hl3, hps⟩
        rw [List.length_map] at hps
        exact ⟨l2, ⟨v2, rfl⟩, f1, hl2, ps, hl3, hps⟩
    rintro τ G2 ⟨l2, ps, v2, rfl, f1, hl2, hl3, hps⟩
    walk_at "wp"
    exact k l2 G2 ps f1 hl2 hl3 hps
/-- the table of one value: each class, and what it is behind that value in place p -/
def TabAt (K : PySem.W.Frag) (G : Hp) (d : Addr) (s n p v : Nat) : Prop := ∃ kvs : List (List Key × V), G d = some (.dT kvs) ∧ ∀ c ∈ clsOf s n, ∃ b, valV kvs (c.map Sum.inl) = some (V.ref b) ∧ SqT K G b ((c.set p ((v : Nat) : Int)).map V.int)
theorem TabAt.same {K : PySem.W.Frag} {G F : Hp} {d : Addr} {s n p v : Nat} (e : Same G F) (h : TabAt K G d s n p v) : TabAt K F d s n p v := by
  obtain ⟨kvs, h1, h2⟩ := h
  refine ⟨kvs, e _ _ h1, fun c hc => ?_⟩
  obtain ⟨b, h3, h4⟩ := h2 c hc
  exact ⟨b, h3, Same.sqT e h4⟩
theorem TabAt.mut {K : PySem.W.Frag} {G : Hp} {D d : Addr} {s n p v : Nat} {as : List V} {o : HO} (e : G D = some (.lst as)) (h : TabAt K G d s n p v) : TabAt K (upd G D o) d s n p v := by
  obtain ⟨kvs, h1, h2⟩ := h
  refine ⟨kvs, ?_, fun c hc => ?_⟩
  · rw [upd_ne (fun z => by rw [z, e] at h1; cases h1)]
    exact h1
  · obtain ⟨b, h3, h4⟩ := h2 c hc
    exact ⟨b, h3, sqT_mut h4 e⟩
def lcSc (st : Stmt) : Scope := match defBody st with
  | [_, .If _ [.Return (some (.ListComp _ _ sc _)) _] _ _, _] => sc
  | _ => defScope st
def lcSc2 (st : Stmt) : Scope := match defBody st with
  | [_, _, .Return (some (.ListComp _ _ sc _)) _] => sc
  | _ => defScope st
theorem len_two {c : List Int} (h : c.length = 2) : ∃ a b, c = [a, b] := by
  match c, h with
  | [a, b], _ => exact ⟨a, b, rfl⟩
theorem set_zero (c : List Int) (a : Int) (h : 0 < c.length) : V.int a :: cutV (c.map V.int) (some 1) none = (c.set 0 a).map V.int := by
  match c, h with
  | b :: l, _ =>
    rw [List.map_cons, List.set_cons_zero, List.map_cons]
    congr 1
    exact cut_tail _ _
def spChg (K : PySem.W.Frag) (C : Addr) : Sp := fun vs H Q _ => ∃ (x : Addr) (ws : List Str) (s p : Nat), vs = [.ref x, .int (p : Nat)] ∧ RegsAt K C H x ws s ∧ ws.length ≤ 2 ∧ s ≤ 3 ∧ p < ws.length ∧
  ∀ (D : Addr) (G : Hp) (ds : List Addr), Same H G → H D = none → G D = some (.lst (ds.map V.ref)) → ds.length = s → (∀ (v : Nat) d, ds[v]? = some d → TabAt K G d s ws.length p v) → Q (.ref D) G
theorem scChg : FnScope ["self", "place", "kinds", "kind", "value"] ["self", "place"] (defScope sChg) := ⟨rfl, rfl, rfl, by decide +kernel, rfl, by decide +kernel, by decide +kernel⟩
theorem c_chg {C : Addr} (D : DefM K C "_changed_at" "Program._changed_at" sChg ["self", "place"]) (n_range : mg "range" = none) (pc : ProgC K C) (cC : MtC P w K mg base CX0 1 C "classes" ["self"] (spCls K C)) : MtC P w K mg base CX0 2 C "_changed_at" ["self", "place"] (spChg K C) := by
  refine D.ok scChg (fun vs H Q E h => ?_) (fun f cdv A outer s H vs Q E hr h => ?_)
  · obtain ⟨x, ws, s, p, rfl, _⟩ := h
    rfl
  · obtain ⟨x, ws, sz, p, rfl, hp, hw2, hs3, hpw, k⟩ := h
    have sc := scChg
    have hu : (A.deeper (envOfC "Program._changed_at" (defScope sChg) s.heap.objs.size f cdv)).units < cLine := by have := hr.un; omega
    refine ⟨_, (pss_cut (ps_set (i := 2) sc.nd rfl (Or.inr rfl) (pe_m0 (pv 0) pc.cls cC hr))
      (pss_cons (ps_if (pt_cmpR op_eq (pv 1) pe_int (nomark _)) (pss_one (ps_ret (pe_lc (own := [("value", 4)]) (g := gName 4) (tt := tYes) rfl sc.nd (pi_range1 (by rfl) n_range (pa_cons (pe_fld (pv 0) rfl) pa_nil)) (blkOk_by (N := ["self", "place", "kinds", "kind", "value"]) (sc := defScope sChg) (by decide +kernel)) (fun _ _ _ _ _ => (pg_name (i := 4) sc.nd rfl (Or.inr rfl))) (fun _ _ _ _ _ => pts_nil)
        (fun _ _ _ _ _ => (pe_dcT (own := [("kind", 3)]) (g := gName 3) (tt := tYes) hu rfl sc.nd (pi_listK K rfl (pv 2)) (blkOk_by (N := ["self", "place", "kinds", "kind", "value"]) (sc := relS (lcSc sChg) (defScope sChg)) (by decide +kernel)) (fun _ _ _ _ _ => (pg_name (i := 3) sc.nd rfl (Or.inl rfl))) (fun _ _ _ _ _ => pts_nil) (fun _ _ _ _ _ => (pv 3))
          (fun _ _ _ _ _ => (pe_tup (pa_cons (pv 4) (pa_starK K rfl (pe_slice (sl_tupAK K rfl) (pv 3) (po_some pe_int) po_none) pa_nil))))))))) pss_nil)
      (pss_one (ps_ret (pe_lc (own := [("value", 4)]) (g := gName 4) (tt := tYes) rfl sc.nd (pi_range1 (by rfl) n_range (pa_cons (pe_fld (pv 0) rfl) pa_nil)) (blkOk_by (N := ["self", "place", "kinds", "kind", "value"]) (sc := defScope sChg) (by decide +kernel)) (fun _ _ _ _ _ => (pg_name (i := 4) sc.nd rfl (Or.inr rfl))) (fun _ _ _ _ _ => pts_nil)
        (fun _ _ _ _ _ => (pe_dcT (own := [("kind", 3)]) (g := gName 3) (tt := tYes) hu rfl sc.nd (pi_listK K rfl (pv 2)) (blkOk_by (N := ["self", "place", "kinds", "kind", "value"]) (sc := relS (lcSc2 sChg) (defScope sChg)) (by decide +kernel)) (fun _ _ _ _ _ => (pg_name (i := 3) sc.nd rfl (Or.inl rfl))) (fun _ _ _ _ _ => pts_nil) (fun _ _ _ _ _ => (pv 3))
          (fun _ _ _ _ _ => (pe_tup (pa_cons (pe_ix (ix_tupK K rfl) (pv 3) pe_int (fun _ _ => rfl)) (pa_cons (pv 4) pa_nil))))))))))), ?_⟩
    obtain ⟨dx, fs, wr, hx, hf1, hf2, hf3, hf4, hwr⟩ := _root_.id hp
    refine ⟨fun τ G => ∃ l ps, τ = [some (V.ref x), some (V.int (p : Nat)), some (V.ref l), none, none] ∧ Same H G ∧ H l = none ∧ G l = some (.lst (ps.map V.ref)) ∧ TupR G ps (clsOf sz ws.length), ?_, ?_⟩
    · walk_at "wp"
      exact ⟨dx, fs, hx, hf3, x, ws, sz, rfl, hp, hw2, hs3, fun D G ps e hD hG hps => ⟨D, rfl, e, hD, ps, hG, hps⟩⟩
    rintro τ G ⟨l, ps, rfl, g, hl, hl1, hps⟩
    have hz := sizeLine_eq
    have few : (clsOf sz ws.length).length ≤ 9 := clsOf_few hs3 hw2
    have elen := hps.len
    walk_at "wp"
    refine ⟨rfl, ite2 (fun c0 => ?_) fun c0 => ?_⟩
    · have ep : p = 0 := by omega
      subst ep
      refine ⟨C, dx, fs, g _ _ hx, pc.cls, pc.n2, _, hf2, (sz : Int), rfl, by omega, by omega, ?_⟩
      rw [show ((sz : Nat) : Int).toNat = sz by omega]
      refine lcw_it (walk_range (lo := 0)) (fun D i G2 => Same G G2 ∧ G D = none ∧ ∃ ds : List Addr, ds.length = i ∧ G2 D = some (.lst (ds.map V.ref)) ∧ ∀ (v : Nat) d, ds[v]? = some d → TabAt K G2 d sz ws.length 0 v) (fun D hD => ⟨same_new hD, hD, [], rfl, upd_same, fun v d h => by simp at h⟩) (fun _ _ _ _ _ => True.intro) ?_ ?_
      · rintro D i y B B' hD hi ⟨b1, nD, ds, el, hds, tabs⟩ ⟨rfl, rfl⟩
        walk_at "wp"
        refine ⟨⟨_, SqL.of (b1 _ _ hl1)⟩, ?_⟩
        refine dct_it walk_list (fun D2 j F => Same B' F ∧ B' D2 = none ∧ ∃ kvs : List (List Key × V), F D2 = some (.dT kvs) ∧ kvs.length ≤ j ∧ ∀ (m : Nat) c, m < j → (clsOf sz ws.length)[m]? = some c → ∃ b, valV kvs (c.map Sum.inl) = some (V.ref b) ∧ SqT K F b ((c.set 0 ((i : Nat) : Int)).map V.int)) (fun D2 hD2 => ⟨same_new hD2, hD2, [], upd_same, Nat.zero_le _, fun m c h => by omega⟩) (fun D2 j F _ h => SqL.of (h.1 _ _ (b1 _ _ hl1))) ?_ ?_
        · rintro D2 j y2 F F' hD2 hj ⟨f1, nD2, kvs, hk1, hk2, hk3⟩ ⟨rfl, hy2⟩
          obtain ⟨pj, c, rfl, hc, hpj⟩ := hps.get hy2
          have hpj2 : SqT K F' pj (c.map V.int) := SqT.of ((b1.trans f1) _ _ hpj)
          have hlc := clsOf_mem sz _ c (List.mem_of_getElem? hc)
          have eset := set_zero c ((i : Nat) : Int) (by omega)
          rw [List.length_map, elen] at hj
          walk_at "wp"
          refine sl_res hpj2 fun r1 F2 s1 hr1 => ⟨r1, rfl, _, .inl hr1, ?_⟩
          rw [eset]
          have el1 : (cutV (c.map V.int) (some 1) none).length + 1 = c.length := by
            have z := congrArg List.length eset
            rw [List.length_cons, List.length_map, List.length_set] at z
            exact z
          refine ⟨by rw [el1]; omega, fun q hq => ?_⟩
          have s3 := s1.trans (same_new (o := .tup ((c.set 0 ((i : Nat) : Int)).map V.int)) hq)
          have hq1 : (upd F2 q (.tup ((c.set 0 ((i : Nat) : Int)).map V.int))) q = some (.tup ((c.set 0 ((i : Nat) : Int)).map V.int)) := upd_same
          generalize upd F2 q (.tup ((c.set 0 ((i : Nat) : Int)).map V.int)) = F3 at s3 hq1 ⊢
          have hkD := s3 _ _ hk1
          refine ⟨kvs, hkD, c.map Sum.inl, ?_, by omega, same_mut (f1.trans s3) nD2, nD2, _, upd_same, ?_, fun m c' hm hc' => ?_⟩
          · rw [List.map_map]
            exact s3 _ _ ((b1.trans f1) _ _ hpj)
          · have := length_putK kvs (c.map Sum.inl) (V.ref q)
            omega
          · rw [valV_put]
            by_cases ek : (c'.map Sum.inl : List Key) = c.map Sum.inl
            · have ec : c' = c := inl_inj ek
              subst ec
              rw [if_pos rfl]
              exact ⟨q, rfl, sqT_mutT (SqT.of hq1) hkD⟩
            · rw [if_neg ek]
              have hmj : m < j := by
                rcases Nat.lt_or_eq_of_le (Nat.le_of_lt_succ hm) with z | z
                · exact z
                · subst z
                  rw [hc] at hc'
                  cases hc'
                  exact absurd rfl ek
              obtain ⟨b, e1, e2⟩ := hk3 m c' hmj hc'
              exact ⟨b, e1, sqT_mutT (Same.sqT s3 e2) hkD⟩
        · rintro D2 F hD2 ⟨f1, nD2, kvs, hk1, hk2, hk3⟩
          have hdF := f1 _ _ hds
          refine ⟨_, hdF, by rw [List.length_map]; omega, same_mut (b1.trans f1) nD, nD, ds ++ [D2], by rw [List.length_append, el]; rfl, by rw [upd_same, List.map_append]; rfl, fun v d hv => ?_⟩
          by_cases c : v < ds.length
          · rw [List.getElem?_append_left c] at hv
            exact TabAt.mut hdF ((tabs v d hv).same f1)
          · rw [List.getElem?_append_right (by omega)] at hv
            have ev : v - ds.length = 0 := by
              rcases Nat.eq_zero_or_pos (v - ds.length) with z | z
              · exact z
              · rw [List.getElem?_eq_none (by rw [List.length_singleton]; omega)] at hv
                cases hv
            rw [ev] at hv
            cases hv
            have ev2 : v = i := by omega
            subst ev2
            refine TabAt.mut hdF ⟨kvs, hk1, fun c hc => ?_⟩
            obtain ⟨m, hm⟩ := List.getElem?_of_mem hc
            refine hk3 m c ?_ hm
            rw [List.length_map, elen]
            exact (List.getElem?_eq_some_iff.mp hm).1
      · rintro D B hD ⟨b1, nD, ds, el, hds, tabs⟩
        exact k D B ds (g.trans b1) (back_none g nD) hds el tabs
    · have ep : p = 1 := by omega
      subst ep
      have ew : ws.length = 2 := by omega
      refine ⟨C, dx, fs, g _ _ hx, pc.cls, pc.n2, _, hf2, (sz : Int), rfl, by omega, by omega, ?_⟩
      rw [show ((sz : Nat) : Int).toNat = sz by omega]
      refine lcw_it (walk_range (lo := 0)) (fun D i G2 => Same G G2 ∧ G D = none ∧ ∃ ds : List Addr, ds.length = i ∧ G2 D = some (.lst (ds.map V.ref)) ∧ ∀ (v : Nat) d, ds[v]? = some d → TabAt K G2 d sz ws.length 1 v) (fun D hD => ⟨same_new hD, hD, [], rfl, upd_same, fun v d h => by simp at h⟩) (fun _ _ _ _ _ => True.intro) ?_ ?_
      · rintro D i y B B' hD hi ⟨b1, nD, ds, el, hds, tabs⟩ ⟨rfl, rfl⟩
        walk_at "wp"
        refine ⟨⟨_, SqL.of (b1 _ _ hl1)⟩, ?_⟩
        refine dct_it walk_list (fun D2 j F => Same B' F ∧ B' D2 = none ∧ ∃ kvs : List (List Key × V), F D2 = some (.dT kvs) ∧ kvs.length ≤ j ∧ ∀ (m : Nat) c, m < j → (clsOf sz ws.length)[m]? = some c → ∃ b, valV kvs (c.map Sum.inl) = some (V.ref b) ∧ SqT K F b ((c.set 1 ((i : Nat) : Int)).map V.int)) (fun D2 hD2 => ⟨same_new hD2, hD2, [], upd_same, Nat.zero_le _, fun m c h => by omega⟩) (fun D2 j F _ h => SqL.of (h.1 _ _ (b1 _ _ hl1))) ?_ ?_
        · rintro D2 j y2 F F' hD2 hj ⟨f1, nD2, kvs, hk1, hk2, hk3⟩ ⟨rfl, hy2⟩
          obtain ⟨pj, c, rfl, hc, hpj⟩ := hps.get hy2
          have hpj2 : SqT K F' pj (c.map V.int) := SqT.of ((b1.trans f1) _ _ hpj)
          have hlc := clsOf_mem sz _ c (List.mem_of_getElem? hc)
          rw [List.length_map, elen] at hj
          walk_at "wp"
          obtain ⟨c0, c1, rfl⟩ := len_two (hlc.trans ew)
          refine ⟨_, hpj2, _, at_of (j := 0) rfl rfl, ?_⟩
          refine ⟨by decide, fun q hq => ?_⟩
          have s3 := (same_new (H := F') (o := .tup [V.int c0, V.int ((i : Nat) : Int)]) hq)
          have hq1 : (upd F' q (.tup [V.int c0, V.int ((i : Nat) : Int)])) q = some (.tup (([c0, c1].set 1 ((i : Nat) : Int)).map V.int)) := upd_same
          generalize upd F' q (.tup (([c0, c1].set 1 ((i : Nat) : Int)).map V.int)) = F3 at s3 hq1 ⊢
          have hkD := s3 _ _ hk1
          refine ⟨kvs, hkD, [c0, c1].map Sum.inl, ?_, by omega, same_mut (f1.trans s3) nD2, nD2, _, upd_same, ?_, fun m c' hm hc' => ?_⟩
          · rw [List.map_map]
            exact s3 _ _ ((b1.trans f1) _ _ hpj)
          · have := length_putK kvs ([c0, c1].map Sum.inl) (V.ref q)
            omega
          · rw [valV_put]
            by_cases ek : (c'.map Sum.inl : List Key) = [c0, c1].map Sum.inl
            · have ec : c' = [c0, c1] := inl_inj ek
              subst ec
              rw [if_pos rfl]
              exact ⟨q, rfl, sqT_mutT (SqT.of hq1) hkD⟩
            · rw [if_neg ek]
              have hmj : m < j := by
                rcases Nat.lt_or_eq_of_le (Nat.le_of_lt_succ hm) with z | z
                · exact z
                · subst z
                  rw [hc] at hc'
                  cases hc'
                  exact absurd rfl ek
              obtain ⟨b, e1, e2⟩ := hk3 m c' hmj hc'
              exact ⟨b, e1, sqT_mutT (Same.sqT s3 e2) hkD⟩
        · rintro D2 F hD2 ⟨f1, nD2, kvs, hk1, hk2, hk3⟩
          have hdF := f1 _ _ hds
          refine ⟨_, hdF, by rw [List.length_map]; omega, same_mut (b1.trans f1) nD, nD, ds ++ [D2], by rw [List.length_append, el]; rfl, by rw [upd_same, List.map_append]; rfl, fun v d hv => ?_⟩
          by_cases c : v < ds.length
          · rw [List.getElem?_append_left c] at hv
            exact TabAt.mut hdF ((tabs v d hv).same f1)
          · rw [List.getElem?_append_right (by omega)] at hv
            have ev : v - ds.length = 0 := by
              rcases Nat.eq_zero_or_pos (v - ds.length) with z | z
              · exact z
              · rw [List.getElem?_eq_none (by rw [List.length_singleton]; omega)] at hv
                cases hv
            rw [ev] at hv
            cases hv
            have ev2 : v = i := by omega
            subst ev2
            refine TabAt.mut hdF ⟨kvs, hk1, fun c hc => ?_⟩
            obtain ⟨m, hm⟩ := List.getElem?_of_mem hc
            refine hk3 m c ?_ hm
            rw [List.length_map, elen]
            exact (List.getElem?_eq_some_iff.mp hm).1
      · rintro D B hD ⟨b1, nD, ds, el, hds, tabs⟩
        exact k D B ds (g.trans b1) (back_none g nD) hds el tabs
end
end YY

set_option maxRecDepth 100000
set_option maxHeartbeats 4000000
namespace YY
open PySem PySem.Spec PyProof.Rows L2 XX
local macro_rules | `(tactic| walk_at "wp") => `(tactic| simp only [tPar3, rIndex, tAug, rExt2, tSeq, tNext, tAsg, tPar, gName, tCB, tCons, tNil, tVar, tC, tOp, tUn, rI, rI0, rU, tLst, tTup, tFor_eq, iRng1, iRng2, iList, iTup, tRet, tRetN, tDrop, tIfS, tTest, tB, tAnd, tOr, tNot, tIf, tAndV, tOrV, tNotV, tCall, tBM, tBM0, rIxL, rIxT, rAppend, tLc_eq, gSub, rSetL, rEq, rNe, rMulS, rIxS, tRevT, gTup, gCons, gNil, wipe, tYes, LcEnd, tDisp, tPairs, tChain, tSl, tPart, tNoPart, rSlT, rSlL, rCatT, rCat, rRep, rIsD, V.ty.injEq, iZipB, tDNewK, tXf, wMA, wAs, rLenK, tLenSetS, rReprE, tVeI, tOst, tErr, tMkO, sFld, tFld, rIsE2, tMakeS, rListStr, tDNotIn, tDIn, tDGet, rSetD, gSub, iEnumA, rIxD, iStr, rIn, rEqI, rLenI, tIxI, rSetI, rSortedSet, rEqK, rEqV, tCallS, tDc_eq, tDcT_eq, tLc2_eq, tMeth, tMethX, WE, tM1, StX.tMakeR, rCatA, StX.tMakeR, StX.tStar, tLock, tLockE, iItems, iKeys,
  cxOf_K, cxOf_noxK, L2.start, List.map_cons, List.map_nil, List.length_cons, List.length_nil, Nat.reduceAdd, Nat.reduceSub, List.replicate_succ, List.replicate_zero, List.replicate, List.cons_append, List.nil_append, List.getElem?_cons_zero, List.getElem?_cons_succ, List.set_cons_zero, List.set_cons_succ, List.append_nil,
  Option.some.injEq, V.int.injEq, V.ref.injEq, V.bl.injEq, V.str.injEq, List.cons.injEq, and_true, true_and, exists_eq_left', exists_eq_left, exists_and_left, exists_and_right, exists_const, bool_ite_true, bool_ite_false, dec_ite, ndec_ite, reduceCtorEq, false_or, or_false, false_and, and_false, decide_eq_true_eq, and_assoc, reduceIte, ite_true, ite_false, Int.zero_add])


/-- the places of the words -/
def plcK (ws : List Str) : List (Key × V) := ws.mapIdx fun i z => (.inr z, .int (i : Nat))
theorem plcK_snoc (ws : List Str) (z : Str) : plcK (ws ++ [z]) = plcK ws ++ [(.inr z, .int (ws.length : Nat))] := by
  unfold plcK
  rw [List.mapIdx_append]
  simp
theorem plcK_none {ws : List Str} {z : Str} (h : z ∉ ws) : valV (plcK ws) (.inr z) = none := by
  unfold valV
  rw [List.find?_eq_none.mpr]
  · rfl
  intro p hp
  obtain ⟨i, hi, rfl⟩ := List.mem_mapIdx.mp hp
  simp only [decide_eq_true_eq]
  intro e
  injection e with e
  exact h (e ▸ List.getElem_mem hi)
theorem plcK_get {ws : List Str} {i : Nat} : (plcK ws)[i]? = ws[i]?.map fun z => (.inr z, .int (i : Nat)) := by
  unfold plcK
  rw [List.getElem?_mapIdx]
theorem plcK_len (ws : List Str) : (plcK ws).length = ws.length := List.length_mapIdx ..
theorem regs_nodup {d : PyData} (h : regsB d = true) : (strsOf d).Nodup := by
  match d, h with
  | .tuple [a], h =>
    have h' : wordB a = true := h
    obtain ⟨z, rfl⟩ := wordB_str h'
    exact List.nodup_cons.mpr ⟨nofun, List.nodup_nil⟩
  | .tuple [a, b], h =>
    have h' : (wordB a && wordB b && !strEq a b) = true := h
    rw [Bool.and_eq_true, Bool.and_eq_true] at h'
    obtain ⟨z, rfl⟩ := wordB_str h'.1.1
    obtain ⟨z', rfl⟩ := wordB_str h'.1.2
    have e : strEq (.str z) (.str z') = false := by simpa using h'.2
    refine List.nodup_cons.mpr ⟨fun hm => ?_, List.nodup_cons.mpr ⟨nofun, List.nodup_nil⟩⟩
    have e2 : z = z' := List.mem_singleton.mp hm
    subst e2
    revert e
    unfold strEq
    simp
/-- the tables of all words -/
def ChAt (K : PySem.W.Frag) (G : Hp) (ch : Addr) (s : Nat) (ws : List Str) : Prop := ∃ kvs : List (Key × V), G ch = some (.dK kvs) ∧ ∀ (p : Nat) z, ws[p]? = some z → ∃ (l : Addr) (ds : List Addr), valV kvs (.inr z) = some (V.ref l) ∧ G l = some (.lst (ds.map V.ref)) ∧ ds.length = s ∧ ∀ (v : Nat) d, ds[v]? = some d → TabAt K G d s ws.length p v
theorem ChAt.same {K : PySem.W.Frag} {G F : Hp} {ch : Addr} {s : Nat} {ws : List Str} (e : Same G F) (h : ChAt K G ch s ws) : ChAt K F ch s ws := by
  obtain ⟨kvs, h1, h2⟩ := h
  refine ⟨kvs, e _ _ h1, fun p z hz => ?_⟩
  obtain ⟨l, ds, a1, a2, a3, a4⟩ := h2 p z hz
  exact ⟨l, ds, a1, e _ _ a2, a3, fun v d hd => (a4 v d hd).same e⟩
/-- nothing of these tables stands at D -/
structure Off (F : Hp) (D : Addr) : Prop where
  t : ∀ xs, F D ≠ some (.tup xs)
  f : ∀ o xs, F D ≠ some (.frz o (.tup xs))
  d : ∀ kvs, F D ≠ some (.dT kvs)
  l : ∀ xs, F D ≠ some (.lst xs)
theorem Off.sqT {K : PySem.W.Frag} {F : Hp} {D a : Addr} {xs : List V} {o : HO} (z : Off F D) (h : SqT K F a xs) : SqT K (upd F D o) a xs := by
  rcases h with (h | ⟨u, h⟩) | h
  · exact .inl (.inl (by rw [upd_ne (fun e => z.t _ (e ▸ h))]; exact h))
  · exact .inl (.inr ⟨u, by rw [upd_ne (fun e => z.f _ _ (e ▸ h))]; exact h⟩)
  · exact .inr h
theorem Off.tab {K : PySem.W.Frag} {F : Hp} {D d : Addr} {s n p v : Nat} {o : HO} (z : Off F D) (h : TabAt K F d s n p v) : TabAt K (upd F D o) d s n p v := by
  obtain ⟨kvs, h1, h2⟩ := h
  refine ⟨kvs, by rw [upd_ne (fun e => z.d _ (e ▸ h1))]; exact h1, fun c hc => ?_⟩
  obtain ⟨b, h3, h4⟩ := h2 c hc
  exact ⟨b, h3, z.sqT h4⟩
theorem Off.lst {F : Hp} {D a : Addr} {xs : List V} {o : HO} (z : Off F D) (h : F a = some (.lst xs)) : upd F D o a = some (.lst xs) := by
  rw [upd_ne (fun e => z.l _ (e ▸ h))]
  exact h
theorem off_dK {F : Hp} {D : Addr} {kvs : List (Key × V)} (e : F D = some (.dK kvs)) : Off F D := by
  constructor <;> intros <;> intro h <;> rw [e] at h <;> cases h
theorem off_frz {F : Hp} {D : Addr} {kvs : List (Key × V)} {od : Obj} (e : F D = some (.frz od (.dK kvs))) : Off F D := by
  constructor <;> intros <;> intro h <;> rw [e] at h <;> cases h
theorem nodup_not : ∀ {ws : List Str} {i : Nat} {z : Str}, ws.Nodup → ws[i]? = some z → z ∉ ws.take i
  | _ :: _, 0, _, _, _ => by simp
  | w :: ws, i + 1, z, h, e => by
    rw [List.getElem?_cons_succ] at e
    obtain ⟨h1, h2⟩ := List.nodup_cons.mp h
    rw [List.take_succ_cons, List.mem_cons]
    rintro (c | c)
    · exact h1 (c ▸ List.mem_of_getElem? e)
    · exact nodup_not h2 e c
theorem nodup_ix {ws : List Str} {i j : Nat} {z : Str} (h : ws.Nodup) (e : ws[i]? = some z) (f : ws[j]? = some z) (hj : j < i) : False := nodup_not h e (List.mem_of_getElem? (i := j) (by rw [List.getElem?_take, if_pos hj]; exact f))
/-- while x is in the making -/
theorem TabAt.ex {K : PySem.W.Frag} {x C dx : Addr} {fs : List (Str × V)} {G F : Hp} {d : Addr} {s n p v : Nat} (hx : G x = some (.ins C dx fs)) (e : Ex x G F) (h : TabAt K G d s n p v) : TabAt K F d s n p v := by
  obtain ⟨kvs, h1, h2⟩ := h
  refine ⟨kvs, e _ _ (ne_of h1 hx (by intro z; cases z)) h1, fun c hc => ?_⟩
  obtain ⟨b, h3, h4⟩ := h2 c hc
  exact ⟨b, h3, sqT_ex hx e h4⟩
theorem ChAt.ex {K : PySem.W.Frag} {x C dx : Addr} {fs : List (Str × V)} {G F : Hp} {ch : Addr} {s : Nat} {ws : List Str} (hx : G x = some (.ins C dx fs)) (e : Ex x G F) (h : ChAt K G ch s ws) : ChAt K F ch s ws := by
  obtain ⟨kvs, h1, h2⟩ := h
  refine ⟨kvs, e _ _ (ne_of h1 hx (by intro z; cases z)) h1, fun p z hz => ?_⟩
  obtain ⟨l, ds, a1, a2, a3, a4⟩ := h2 p z hz
  exact ⟨l, ds, a1, e _ _ (ne_of a2 hx (by intro z; cases z)) a2, a3, fun v d hd => (a4 v d hd).ex hx e⟩
def spProg (K : PySem.W.Frag) (C cR cN cW cB : Addr) : Sp := fun vs H Q E => ∃ (x dx : Addr) (rv wv zv : V) (rd wd zd : PyData), vs = [.ref x, rv, wv, zv] ∧ H x = some (.ins C dx []) ∧ DpE K H rv rd ∧ (itemsOf rd ≠ none → sm rd = true) ∧ Dp K H wv wd ∧ sm wd = true ∧ Dp K H zv zd ∧
  (regsB wd = false → ∀ G d, Same H G → G d = none → E (.ref cR) (some d) (upd G d (.xd [("value", wv)]))) ∧
  (regsB wd = true → btw zd 2 3 = false → ∀ G d, Same H G → G d = none → E (.ref cN) (some d) (upd G d (.xd [("value", zv)]))) ∧
  (regsB wd = true → btw zd 2 3 = true → rowsOk rd = false → ∀ G d, Same H G → G d = none → E (.ref cW) (some d) (upd G d (.xd [("value", rv)]))) ∧
  (regsB wd = true → btw zd 2 3 = true → ∀ ds, itemsOf rd = some ds → rowsOk rd = true → (∀ i, firstBad (strsOf wd) (intOf zd) ds = some i → ∀ G d, Same H G → G d = none → E (.ref cB) (some d) (upd G d (.xd [("value", .int (i : Nat))]))) ∧
    (firstBad (strsOf wd) (intOf zd) ds = none → ∀ G r t pl ch, Ex x H G → G x = some (.ins C dx [("registers", r), ("size", zv), ("rows", .ref t), ("end", .int (ds.length : Nat)), ("places", .ref pl), ("changed", .ref ch)]) → Dp K G r wd → Dp K G (.ref t) (.tuple ds) → G pl = some (.dK (plcK (strsOf wd))) → ChAt K G ch (intOf zd).toNat (strsOf wd) → Q .non G))
theorem scProg : FnScope ["self", "rows", "registers", "values", "index", "row", "place", "word"] ["self", "rows", "registers", "values"] (defScope sProgInit) := ⟨rfl, rfl, rfl, by decide +kernel, rfl, by decide +kernel, by decide +kernel⟩
section
variable {kws : List (Str × V)} {P : Program} {w : World} {K : PySem.W.Frag} {mg : Str → Option Value} {base : Heap}
theorem c_progInit {C f fI : Addr} {fd fdI : FuncData} {tk : Tok} {cR cN cW cB : Addr} (F : FunD K "__init__" "Program.__init__" (defArgs sProgInit) (defBody sProgInit) (defScope sProgInit) [] kws f fd) (T : Bl2 mg) (ER : Errs K mg fI cR cN cW cB)
    (cI : FnOk P w K mg base CX0 1 fI fdI ["self", "value"] (spErr K)) (hbI : Binds K fdI ["self", "value"] []) (gM : mg "MOST_ROWS" = some (.int 24 tk)) (c1 : FnC P w K mg base CX0 2 "are_registers" ["value"] (spAreRegs K)) (c2 : FnC P w K mg base CX0 2 "is_between" ["value", "least", "most"] (spIsBetween K))
    (c3 : FnC P w K mg base CX0 4 "is_row" ["row", "registers", "size", "end"] (spIsRow K)) (pc : ProgC K C) (cG : MtC P w K mg base CX0 2 C "_changed_at" ["self", "place"] (spChg K C)) : FnOk P w K mg base (L2.CX P w) 5 f fd ["self", "rows", "registers", "values"] (spProg K C cR cN cW cB) := by
  refine F.ok scProg (fun vs H Q E h => ?_) (fun cdv A outer s H vs Q E hr h => ?_)
  · obtain ⟨x, dx, rv, wv, zv, rd, wd, zd, rfl, _⟩ := h
    rfl
  · obtain ⟨x, dx, rv, wv, zv, rd, wd, zd, rfl, hx, hrv, hrs, hwv, hws, hzv, k1, k2, k3, k4⟩ := h
    have sc := scProg
    have hr1 : Room 2 _ := hr.mono (by decide)
    refine ⟨_, (pss_cut (ps_if (pt_not (pt_val (pe_c c1 hr1 rfl (pa_cons (pv 2) pa_nil)))) (pss_one (ps_err ER.R cI hbI hr1 rfl (takes_of rfl rfl rfl rfl) (pv 2) rfl)) pss_nil)
    (pss_cut (ps_if (pt_not (pt_val (pe_c c2 hr1 rfl (pa_cons (pv 3) (pa_cons pe_int (pa_cons pe_int pa_nil)))))) (pss_one (ps_err ER.N cI hbI hr1 rfl (takes_of rfl rfl rfl rfl) (pv 3) rfl)) pss_nil)
    (pss_cut (ps_if (PW.pt (pw_or (pt_not (pt_val (pe_callB (call_isE2 ty_list ty_tuple) (by rfl) T.n_isinstance (by decide +kernel) (pa_cons (pv 1) (pa_cons (pe_tup (pa_cons (pe_ty "list" (by rfl) T.n_list) (pa_cons (pe_ty "tuple" (by rfl) T.n_tuple) pa_nil))) pa_nil))))) (pw_or1 (pt_not (pt_chain op_le op_le pe_int (pe_callB call_len_seq (by rfl) T.n_len (by decide +kernel) (pa_cons (pv 1) pa_nil)) (pe_glob (v := .int 24) rfl gM ⟨_, rfl⟩)))))) (pss_one (ps_err ER.W cI hbI hr1 rfl (takes_of rfl rfl rfl rfl) (pv 1) rfl)) pss_nil)
    (pss_cut (ps_for (passes_of rfl) rfl (pi_enumA (isTupD rd) (by rfl) T.n_enumerate (pa_cons (pv 1) pa_nil)) (pg_tup (by rfl) (pgs_cons (pg_name (i := 4) sc.nd rfl (Or.inl rfl)) (pgs_cons (pg_name (i := 5) sc.nd rfl (Or.inl rfl)) pgs_nil)))
      (pss_one (ps_if (pt_not (pt_val (pe_c c3 hr rfl (pa_cons (pv 5) (pa_cons (pv 2) (pa_cons (pv 3) (pa_cons (pe_callB call_len_seq (by rfl) T.n_len (by decide +kernel) (pa_cons (pv 1) pa_nil)) pa_nil))))))) (pss_one (ps_err ER.B cI hbI hr1 rfl (takes_of rfl rfl rfl rfl) (pv 4) rfl)) pss_nil)))
    (pss_cut (ps_fld (pv 0) (pe_callTy call_tuple_of (by rfl) T.n_tuple (by decide +kernel) (pa_cons (pv 2) pa_nil)) rfl)
    (pss_cut (ps_fld (pv 0) (pv 3) rfl)
    (pss_cut (ps_fld (pv 0) (pe_callTy call_tuple_of (by rfl) T.n_tuple (by decide +kernel) (pa_cons (pv 1) pa_nil)) rfl)
    (pss_cut (ps_fld (pv 0) (pe_callB call_len_seq (by rfl) T.n_len (by decide +kernel) (pa_cons (pv 1) pa_nil)) rfl)
    (pss_cut (ps_fld (pv 0) (pe_dc (own := [("place", 6), ("word", 7)]) (g := gTup K 2 (gCons (gName 6) (gCons (gName 7) gNil))) (tt := tYes) rfl sc.nd (pi_enumA true (by rfl) T.n_enumerate (pa_cons (pv 2) pa_nil)) (blkOk_by (N := ["self", "rows", "registers", "values", "index", "row", "place", "word"]) (sc := defScope sProgInit) (by decide +kernel)) (fun _ _ _ _ _ => (pg_tup (by rfl) (pgs_cons (pg_name (i := 6) sc.nd rfl (Or.inl rfl)) (pgs_cons (pg_name (i := 7) sc.nd rfl (Or.inl rfl)) pgs_nil)))) (fun _ _ _ _ _ => pts_nil) (fun _ _ _ _ _ => (pv 7)) (fun _ _ _ _ _ => (pv 6))) rfl)
    (pss_one (ps_fld (pv 0) (pe_lock (pe_dc (own := [("place", 6), ("word", 7)]) (g := gTup K 2 (gCons (gName 7) (gCons (gName 6) gNil))) (tt := tYes) rfl sc.nd (pi_items (pe_fld (pv 0) rfl)) (blkOk_by (N := ["self", "rows", "registers", "values", "index", "row", "place", "word"]) (sc := defScope sProgInit) (by decide +kernel)) (fun _ _ _ _ _ => (pg_tup (by rfl) (pgs_cons (pg_name (i := 7) sc.nd rfl (Or.inl rfl)) (pgs_cons (pg_name (i := 6) sc.nd rfl (Or.inl rfl)) pgs_nil)))) (fun _ _ _ _ _ => pts_nil) (fun _ _ _ _ _ => (pv 7)) (fun _ _ _ _ _ => (pe_m (pv 0) pc.cls cG hr1 (pa_cons (pv 6) pa_nil))))) rfl))))))))))), ?_⟩
    refine ⟨fun τ G => τ = [some (V.ref x), some rv, some wv, some zv, none, none, none, none] ∧ Same H G ∧ regsB wd = true, ?_, ?_⟩
    · walk_at "wp"
      refine ⟨wv, wd, rfl, hwv, hws, fun G g => ⟨_, rfl, ?_⟩⟩
      cases e : regsB wd with
      | false => exact err_of2 ER.R.oex ER.R.no fun d hd => k1 e G d g hd
      | true => exact ⟨g, rfl⟩
    rintro τ G ⟨rfl, g, e1⟩
    refine ⟨fun τ G' => τ = [some (V.ref x), some rv, some wv, some zv, none, none, none, none] ∧ G' = G ∧ btw zd 2 3 = true, ?_, ?_⟩
    · walk_at "wp"
      refine ⟨zv, zd, 2, 3, rfl, dp_same g _ _ hzv, _, rfl, ?_⟩
      cases e : btw zd 2 3 with
      | false => exact err_of2 ER.N.oex ER.N.no fun d hd => k2 e1 e G d g hd
      | true => exact ⟨rfl, rfl⟩
    rintro τ G' ⟨rfl, rfl, e2⟩
    refine ⟨fun τ G2 => τ = [some (V.ref x), some rv, some wv, some zv, none, none, none, none] ∧ Same G' G2 ∧ rowsOk rd = true, ?_, ?_⟩
    · walk_at "wp"
      refine ⟨by decide, fun p hp => ?_⟩
      generalize hG : upd G' p (.tup [V.ty "list", V.ty "tuple"]) = G3
      have g3 : Same G' G3 := by
        rw [← hG]
        exact same_new hp
      have bad : rowsOk rd = false → _ := fun e => err_of2 (K := K) (v := rv) (H := G3) (Q := fun cls d H => E cls d H) ER.W.oex ER.W.no fun d hd => k3 e1 e2 e G3 d (g.trans g3) hd
      refine ⟨by rw [← hG]; exact upd_same, rd, dpE_same (g.trans g3) hrv, ?_⟩
      rw [isTy_seq]
      cases hi : itemsOf rd with
      | none => exact bad (by unfold rowsOk; rw [hi])
      | some ds =>
        obtain ⟨a, xs, rfl, hq, ha⟩ := seqOf hi (dpE_same (g.trans g3) hrv)
        have el := dpAll_len ha
        have er : rowsOk rd = (decide (1 ≤ ds.length) && decide (ds.length ≤ 24)) := by unfold rowsOk; rw [hi]
        rw [if_neg (show ¬ (!(some ds).isSome) = true from Bool.false_ne_true)]
        refine ⟨a, rfl, xs, sqA_or hq, ite2 (fun a1 => ite2 (fun a2 => ⟨g3, ?_⟩) fun a2 => ?_) fun a1 => ?_⟩
        · rw [er, decide_eq_true (show 1 ≤ ds.length by omega), decide_eq_true (show ds.length ≤ 24 by omega)]
          rfl
        · exact bad (by rw [er, decide_eq_false (show ¬ ds.length ≤ 24 by omega), Bool.and_false])
        · rw [if_pos (by rfl)]
          exact bad (by rw [er, decide_eq_false (show ¬ 1 ≤ ds.length by omega), Bool.false_and])
    rintro τ G2 ⟨rfl, g2, e3⟩
    have g12 := g.trans g2
    obtain ⟨ds, hi⟩ : ∃ ds, itemsOf rd = some ds := by
      unfold rowsOk at e3
      cases hi : itemsOf rd with
      | none =>
        rw [hi] at e3
        cases e3
      | some ds => exact ⟨ds, rfl⟩
    obtain ⟨k4b, k5⟩ := k4 e1 e2 ds hi e3
    have hsm := hrs (by rw [hi]; simp)
    obtain ⟨a, xs, rfl, hq, ha⟩ := seqOf hi (dpE_same g12 hrv)
    have el := dpAll_len ha
    obtain ⟨ew, hwz, wl1, wl2⟩ := regs_strs e1
    rw [ew] at hwv
    obtain ⟨ra, rfl, hra⟩ := dp_strs hwv
    obtain ⟨ez, rfl⟩ := int_btw e2 hzv
    have hd24 : ds.length ≤ 24 := by
      unfold rowsOk at e3
      rw [hi] at e3
      simp only [Bool.and_eq_true, decide_eq_true_eq] at e3
      exact e3.2
    have hmem : ∀ d ∈ ds, sm d = true := sm_items hi hsm
    -- row by row
    refine ⟨fun τ G3 => ∃ u1 u2, τ = [some (V.ref x), some (V.ref a), some (V.ref ra), some (V.int (intOf zd)), u1, u2, none, none] ∧ Same G2 G3 ∧ firstBad (strsOf wd) (intOf zd) ds = none, ?_, ?_⟩
    · walk_at "wp"
      refine ⟨⟨xs, hq⟩, ?_⟩
      refine loop_it walk_enumA (fun i τ G3 => ∃ u1 u2, τ = [some (V.ref x), some (V.ref a), some (V.ref ra), some (V.int (intOf zd)), u1, u2, none, none] ∧ Same G2 G3 ∧ ∀ (j : Nat) d, j < i → ds[j]? = some d → rowB (strsOf wd) (intOf zd) ds.length d = true)
        ⟨none, none, rfl, Same.refl _, fun j d h => by omega⟩ (fun i τ G3 _ ⟨_, _, _, e, _⟩ => sqA_same e hq) ?_ ?_
      · rintro i y τ G3 G4 hlt ⟨u1, u2, rfl, g3, ok⟩ ⟨q, y1, y2, rfl, hqq, rfl, hy1, hy2⟩
        cases hy1
        obtain ⟨rd', hr', hdp⟩ := dpAll_get ha hy2
        have s4 : Same G2 (upd G3 q (.tup [V.int (i : Nat), y2])) := g3.trans (same_new hqq)
        walk_at "wp"
        refine ⟨_, SqT.of upd_same, rfl, _, _, rfl, _, _, rfl, rfl, xs, sqA_or (sqA_same s4 hq), ?_⟩
        refine ⟨y2, rd', ra, strsOf wd, intOf zd, xs.length, rfl, dp_same s4 _ _ hdp, hmem _ (List.mem_of_getElem? hr'), Same.sqT (g12.trans s4) hra, fun G5 g5 => ⟨_, rfl, ?_⟩⟩
        rw [el]
        have bound : ∀ (j : Nat) d, j < i + 1 → ds[j]? = some d → rowB (strsOf wd) (intOf zd) ds.length rd' = true → rowB (strsOf wd) (intOf zd) ds.length d = true := fun j d hj hd hr => by
          by_cases c : j < i
          · exact ok j d c hd
          · have e : j = i := by omega
            subst e
            rw [hr'] at hd
            cases hd
            exact hr
        cases hb : rowB (strsOf wd) (intOf zd) ds.length rd' with
        | true => exact ⟨s4.trans g5, fun j d hj hd => bound j d hj hd hb⟩
        | false =>
          refine err_of2 (Q := fun cls d H => E cls d H) ER.B.oex ER.B.no fun d hd => k4b i ?_ G5 d ((g12.trans s4).trans g5) hd
          exact find_at hr' (by rw [hb]; rfl) fun j d hj hd' => by rw [ok j d hj hd']; rfl
      · rintro τ G3 ⟨u1, u2, rfl, g3, ok⟩
        refine ⟨⟨u1, u2, rfl⟩, g3, find_none fun j d hd => ?_⟩
        rw [ok j d (by rw [el]; exact (List.getElem?_eq_some_iff.mp hd).1) hd]
        rfl
    rintro τ G3 ⟨u1, u2, rfl, g3, e4⟩
    have g13 := g12.trans g3
    have hx3 : G3 x = some (.ins C dx []) := g13 _ _ hx
    have hq3 := sqA_same g3 hq
    have hra3 := Same.sqT g13 hra
    have hda3 := dps_same g3 _ _ ha
    have kk := k5 e4
    clear k5 k4b k4 k1 k2 k3
    refine ⟨fun τ G => τ = [some (V.ref x), some (V.ref a), some (V.ref ra), some (V.int (intOf zd)), u1, u2, none, none] ∧ Ex x G3 G ∧ G x = some (.ins C dx [("registers", .ref ra)]), ?_, ?_⟩
    · walk_at "wp"
      exact ⟨_, .inr ⟨hra3, C, dx, [], hx3, pc.cls, pc.n1, (by show 0 < 1000; decide), ex_upd, upd_same⟩⟩
    rintro τ G4 ⟨rfl, x4, hx4⟩
    refine ⟨fun τ G => τ = [some (V.ref x), some (V.ref a), some (V.ref ra), some (V.int (intOf zd)), u1, u2, none, none] ∧ Ex x G3 G ∧ G x = some (.ins C dx [("registers", .ref ra), ("size", .int (intOf zd))]), ?_, ?_⟩
    · walk_at "wp"
      exact ⟨C, dx, _, hx4, pc.cls, pc.n2, (by show 1 < 1000; decide), x4.trans ex_upd, upd_same⟩
    rintro τ G5 ⟨rfl, x5, hx5⟩
    refine ⟨fun τ G => τ = [some (V.ref x), some (V.ref a), some (V.ref ra), some (V.int (intOf zd)), u1, u2, none, none] ∧ ∃ t, Ex x G3 G ∧ G x = some (.ins C dx [("registers", .ref ra), ("size", .int (intOf zd)), ("rows", .ref t)]) ∧ SqT K G t xs, ?_, ?_⟩
    · walk_at "wp"
      have hq5 := sqA_ex hx3 x5 hq3
      refine ⟨xs, ?_⟩
      cases ht : isTupD rd with
      | true =>
        rw [ht] at hq5
        exact .inr ⟨hq5, C, dx, _, hx5, pc.cls, pc.n3, (by show 2 < 1000; decide), x5.trans ex_upd, a, upd_same, sqT_ex hx5 ex_upd hq5⟩
      | false =>
        rw [ht] at hq5
        exact .inl ⟨hq5, fun l hl => ⟨C, dx, _, same_new hl _ _ hx5, pc.cls, pc.n3, (by show 2 < 1000; decide), (x5.trans (ex_same (same_new hl))).trans ex_upd, l, upd_same, sqT_ex (same_new hl _ _ hx5) ex_upd (SqT.of upd_same)⟩⟩
    rintro τ G6 ⟨rfl, t, x6, hx6, ht6⟩
    refine ⟨fun τ G => τ = [some (V.ref x), some (V.ref a), some (V.ref ra), some (V.int (intOf zd)), u1, u2, none, none] ∧ Ex x G3 G ∧ G x = some (.ins C dx [("registers", .ref ra), ("size", .int (intOf zd)), ("rows", .ref t), ("end", .int (ds.length : Nat))]) ∧ SqT K G t xs, ?_, ?_⟩
    · walk_at "wp"
      refine ⟨xs, sqA_or (sqA_ex hx3 x6 hq3), C, dx, _, hx6, pc.cls, pc.n4, (by show 3 < 1000; decide), x6.trans ex_upd, ?_, sqT_ex hx6 ex_upd ht6⟩
      rw [upd_same, el]
      rfl
    rintro τ G7 ⟨rfl, x7, hx7, ht7⟩
    have hra7 := sqT_ex hx3 x7 hra3
    have nd := regs_nodup e1
    refine ⟨fun τ G => τ = [some (V.ref x), some (V.ref a), some (V.ref ra), some (V.int (intOf zd)), u1, u2, none, none] ∧ ∃ pl, Ex x G7 G ∧ G x = some (.ins C dx [("registers", .ref ra), ("size", .int (intOf zd)), ("rows", .ref t), ("end", .int (ds.length : Nat)), ("places", .ref pl)]) ∧ G pl = some (.dK (plcK (strsOf wd))), ?_, ?_⟩
    · walk_at "wp"
      refine ⟨⟨(strsOf wd).map V.str, hra7⟩, ?_⟩
      refine dcw_it (walk_enumA (t := true) (xs := (strsOf wd).map V.str)) (fun D i F => Same G7 F ∧ G7 D = none ∧ F D = some (.dK (plcK ((strsOf wd).take i)))) (fun D hD => ⟨same_new hD, hD, upd_same⟩) (fun D i F _ h => Same.sqT h.1 hra7) ?_ ?_
      · rintro D i y F F' hD hi ⟨f1, nD, hF⟩ ⟨q, y1, y2, rfl, hqq, rfl, hy1, hy2⟩
        cases hy1
        have hy2 : ((strsOf wd).map V.str)[i]? = some y2 := hy2
        rw [List.getElem?_map] at hy2
        obtain ⟨z, hz, rfl⟩ := Option.map_eq_some_iff.mp hy2
        rw [List.length_map] at hi
        walk_at "wp"
        have s3 := f1.trans (same_new (o := .tup [V.int (i : Nat), V.str z]) hqq)
        refine ⟨_, SqT.of upd_same, rfl, _, _, rfl, _, _, rfl, rfl, _, .inr z, rfl, same_new hqq _ _ hF, ?_, same_mut s3 nD, nD, ?_⟩
        · rw [plcK_len, List.length_take, sizeLine_eq]
          omega
        · rw [upd_same, L2.putK_new _ (plcK_none (nodup_not nd hz)), List.take_succ, hz]
          show _ = some (HO.dK (plcK ((strsOf wd).take i ++ [z])))
          rw [plcK_snoc, List.length_take, Nat.min_eq_left (by omega)]
      · rintro D F hD ⟨f1, nD, hF⟩
        rw [List.length_map, List.take_length] at hF
        refine ⟨C, dx, _, f1 _ _ hx7, pc.cls, pc.n5, (by show 4 < 1000; decide), (ex_same f1).trans ex_upd, D, upd_same, ?_⟩
        rw [upd_ne (fun z => by rw [z, f1 _ _ hx7] at hF; cases hF)]
        exact hF
    rintro τ G8 ⟨rfl, pl, x8, hx8, hpl⟩
    have hra8 := sqT_ex hx7 x8 hra7
    have ht8 := sqT_ex hx7 x8 ht7
    have hb : 2 ≤ intOf zd ∧ intOf zd ≤ 3 := by
      have e := e2
      rw [ez] at e
      unfold btw at e
      simpa using e
    obtain ⟨sz, hsz⟩ : ∃ sz : Nat, sz = (intOf zd).toNat := ⟨_, rfl⟩
    have hsz2 : intOf zd = ((sz : Nat) : Int) := by omega
    walk_at "wp"
    refine ⟨pl, _, hpl, trivial, fun od => ?_⟩
    have hne : x ≠ pl := fun z => by
      rw [← z, hx8] at hpl
      cases hpl
    obtain ⟨G9, hG9⟩ : ∃ G9, G9 = upd G8 pl (.frz od (.dK (plcK (strsOf wd)))) := ⟨_, rfl⟩
    have hxf : G9 x = some (.ins C dx [("registers", .ref ra), ("size", .int (intOf zd)), ("rows", .ref t), ("end", .int (ds.length : Nat)), ("places", .ref pl)]) := by
      rw [hG9, upd_ne hne]
      exact hx8
    have hpf : G9 pl = some (.frz od (.dK (plcK (strsOf wd)))) := by
      rw [hG9]
      exact upd_same
    have hraf : SqT K G9 ra ((strsOf wd).map V.str) := by
      rw [hG9]
      exact (off_dK hpl).sqT hra8
    rw [← hG9]
    refine ⟨C, dx, _, hxf, pc.cls, pc.n5, _, rfl, pl, rfl, od, plcK (strsOf wd), hpf, ?_⟩
    refine dcw_it walk_items (fun D i F => Same G9 F ∧ G9 D = none ∧ ∃ kvs : List (Key × V), F D = some (.dK kvs) ∧ kvs.length ≤ i ∧ ∀ (p : Nat) z, p < i → (strsOf wd)[p]? = some z → ∃ (l : Addr) (ds : List Addr), valV kvs (.inr z) = some (V.ref l) ∧ F l = some (.lst (ds.map V.ref)) ∧ ds.length = sz ∧ ∀ (v : Nat) d, ds[v]? = some d → TabAt K F d sz (strsOf wd).length p v)
      (fun D hD => ⟨same_new hD, hD, [], upd_same, Nat.zero_le _, fun p z h => by omega⟩) (fun D i F _ h => h.1 _ _ hpf) ?_ ?_
    · rintro D i y F F' hD hi ⟨f1, nD, kvs, hk1, hk2, hk3⟩ ⟨q, y1, y2, rfl, hqq, rfl, hy1, hy2⟩
      rw [plcK_len] at hi
      have hy1 : Option.map (fun kv => kV kv.1) (plcK (strsOf wd))[i]? = some y1 := hy1
      have hy2 : Option.map Prod.snd (plcK (strsOf wd))[i]? = some y2 := hy2
      obtain ⟨z, hz⟩ : ∃ z, (strsOf wd)[i]? = some z := ⟨_, List.getElem?_eq_getElem hi⟩
      rw [plcK_get, hz] at hy1 hy2
      cases hy1
      cases hy2
      have s3 := f1.trans (same_new (o := .tup [kV (Sum.inr z), V.int (i : Nat)]) hqq)
      have f3 := same_new (o := .tup [kV (Sum.inr z), V.int (i : Nat)]) hqq
      have hq1 : (upd F q (.tup [kV (Sum.inr z), V.int (i : Nat)])) q = some (.tup [kV (Sum.inr z), V.int (i : Nat)]) := upd_same
      generalize upd F q (.tup [kV (Sum.inr z), V.int (i : Nat)]) = F1 at s3 f3 hq1 ⊢
      walk_at "wp"
      refine ⟨_, SqT.of hq1, rfl, _, _, rfl, _, _, rfl, rfl, dx, _, s3 _ _ hxf, rfl, x, strsOf wd, sz, i, rfl, ⟨dx, _, ra, s3 _ _ hxf, rfl, ?_, rfl, rfl, Same.sqT s3 hraf⟩, wl2, by omega, hi, fun L F2 ds2 e hL hl el2 tabs => ?_⟩
      · rw [← hsz2]
        rfl
      · have hkF := e _ _ (f3 _ _ hk1)
        have ofD := off_dK hkF
        have fe := f3.trans e
        refine ⟨kvs, .inr z, rfl, hkF, by rw [sizeLine_eq]; omega, same_mut (s3.trans e) nD, nD, _, upd_same, ?_, fun p z' hp hz' => ?_⟩
        · have := length_putK kvs (Sum.inr z) (V.ref L)
          omega
        · by_cases c : p = i
          · subst c
            rw [hz] at hz'
            cases hz'
            exact ⟨L, by rw [valV_put, if_pos rfl], ds2, ofD.lst hl, el2, fun v d hd => ofD.tab (tabs v d hd)⟩
          · have hpi : p < i := by omega
            obtain ⟨l, ds3, a1, a2, a3, a4⟩ := hk3 p z' hpi hz'
            have hzz : ¬ ((Sum.inr z' : Key) = Sum.inr z) := fun e2 => by
              injection e2 with e2
              subst e2
              exact nodup_ix nd hz hz' hpi
            exact ⟨l, by rw [valV_put, if_neg hzz]; exact a1, ds3, ofD.lst (fe _ _ a2), a3, fun v d hd => ofD.tab ((a4 v d hd).same fe)⟩
    · rintro D F hD ⟨f1, nD, kvs, hk1, hk2, hk3⟩
      have hplF := f1 _ _ hpf
      have hxF := f1 _ _ hxf
      have hDp : D ≠ pl := fun z => by
        rw [z, hpf] at nD
        cases nD
      have ofz := off_frz hplF
      refine ⟨hplF, C, dx, _, (upd_ne hne).trans hxF, pc.cls, pc.n6, (by show 5 < 1000; decide), ?_⟩
      have s10 : Same G8 (upd F pl (.dK (plcK (strsOf wd)))) := fun b o hbo => by
        by_cases c : b = pl
        · subst c
          rw [hpl] at hbo
          cases hbo
          exact upd_same
        · rw [upd_ne c]
          refine f1 _ _ ?_
          rw [hG9, upd_ne c]
          exact hbo
      have ch10 : ChAt K (upd F pl (.dK (plcK (strsOf wd)))) D sz (strsOf wd) := by
        refine ⟨kvs, by rw [upd_ne hDp]; exact hk1, fun p z hz => ?_⟩
        obtain ⟨l, ds2, a1, a2, a3, a4⟩ := hk3 p z (by rw [plcK_len]; exact (List.getElem?_eq_some_iff.mp hz).1) hz
        exact ⟨l, ds2, a1, ofz.lst a2, a3, fun v d hd => ofz.tab (a4 v d hd)⟩
      have hx10 : (upd F pl (.dK (plcK (strsOf wd)))) x = some (.ins C dx [("registers", .ref ra), ("size", .int (intOf zd)), ("rows", .ref t), ("end", .int (ds.length : Nat)), ("places", .ref pl)]) := (upd_ne hne).trans hxF
      generalize upd F pl (.dK (plcK (strsOf wd))) = G10 at s10 ch10 hx10 ⊢
      have x11 : Ex x G3 (upd G10 x (.ins C dx (putF (Str.ofString "changed") (V.ref D) [("registers", .ref ra), ("size", .int (intOf zd)), ("rows", .ref t), ("end", .int (ds.length : Nat)), ("places", .ref pl)]))) := ((x7.trans x8).trans (ex_same s10)).trans ex_upd
      refine kk _ (.ref ra) t pl D ((ex_same g13).trans x11) (by rw [upd_same]; rfl) ?_ (.tup (sqT_ex hx10 ex_upd (Same.sqT s10 ht8)) (dps_ex hx3 x11 _ _ hda3)) ?_ ?_
      · rw [ew]
        exact .tup (sqT_ex hx3 x11 hra3) (dpAll_strs _)
      · rw [upd_ne (Ne.symm hne)]
        exact s10 _ _ hpl
      · rw [← hsz]
        exact ch10.ex hx10 ex_upd
end
end YY

set_option maxRecDepth 100000
set_option maxHeartbeats 4000000
namespace YY
open PySem PySem.Spec PyProof.Rows L2 XX
local macro_rules | `(tactic| walk_at "wp") => `(tactic| simp only [tSeq, tNext, tAsg, tPar, gName, tCB, tCons, tNil, tVar, tC, tOp, tUn, rI, rI0, rU, tLst, tTup, tFor_eq, iRng1, iRng2, iList, iTup, tRet, tRetN, tDrop, tIfS, tTest, tB, tAnd, tOr, tNot, tIf, tAndV, tOrV, tNotV, tCall, tBM, tBM0, rIxL, rIxT, rAppend, tLc_eq, gSub, rSetL, rEq, rNe, rMulS, rIxS, tRevT, gTup, gCons, gNil, wipe, tYes, LcEnd, tDisp, tPairs, tChain, tSl, tPart, tNoPart, rSlT, rSlL, rCatT, rCat, rRep, rIsD, V.ty.injEq, iZipB, tDNewK, tXf, wMA, wAs, rLenK, tLenSetS, rReprE, tVeI, tOst, tErr, tMkO, sFld, tFld, rIsE2, tMakeS, rListStr, tDNotIn, tDGet, rSetD, gSub, iEnumA, rIxD, iStr, rIn, rEqI, rLenI, tIxI, rSetI, rSortedSet, rEqK, tLc2_eq, tMeth, tMethX, StX.tStar, tLock, tLockE, iItems, iKeys,
  cxOf_K, cxOf_noxK, L2.start, List.map_cons, List.map_nil, List.length_cons, List.length_nil, Nat.reduceAdd, Nat.reduceSub, List.replicate_succ, List.replicate_zero, List.replicate, List.cons_append, List.nil_append, List.getElem?_cons_zero, List.getElem?_cons_succ, List.set_cons_zero, List.set_cons_succ, List.append_nil,
  Option.some.injEq, V.int.injEq, V.ref.injEq, V.bl.injEq, V.str.injEq, List.cons.injEq, and_true, true_and, exists_eq_left', exists_eq_left, exists_and_left, exists_and_right, exists_const, bool_ite_true, bool_ite_false, dec_ite, ndec_ite, reduceCtorEq, false_or, or_false, false_and, and_false, decide_eq_true_eq, and_assoc, reduceIte, ite_true, ite_false, Int.zero_add])


/-! ### a program's data -/
structure PrD where
  ws : List Str
  size : Int
  ds : List PyData
structure PrD.Ok (g : PrD) : Prop where
  regs : regsB (.tuple (g.ws.map PyData.str)) = true
  smw : sm (.tuple (g.ws.map PyData.str)) = true
  size2 : 2 ≤ g.size
  size3 : g.size ≤ 3
  least : 1 ≤ g.ds.length
  most : g.ds.length ≤ 24
  rows : ∀ d ∈ g.ds, rowB g.ws g.size g.ds.length d = true
  sml : ∀ d ∈ g.ds, Sml 2 2000 d
def kindIn (ks : List Str) : PyData → Bool
  | .tuple (.str k :: _) => decide (k ∈ ks)
  | _ => false
def kAt (ks : List Str) (ds : List PyData) (i : Nat) : Bool := match ds[i]? with
  | some d => kindIn ks d
  | none => false
def ProgAt (K : PySem.W.Frag) (C : Addr) (H : Hp) (x : Addr) (g : PrD) : Prop := ∃ (dx wr t plA chA : Addr), H x = some (.ins C dx [("registers", .ref wr), ("size", .int g.size), ("rows", .ref t), ("end", .int (g.ds.length : Nat)), ("places", .ref plA), ("changed", .ref chA)]) ∧ SqT K H wr (g.ws.map V.str) ∧ Dp K H (.ref t) (.tuple g.ds) ∧ H plA = some (.dK (plcK g.ws)) ∧ ChAt K H chA g.size.toNat g.ws
theorem ProgAt.same {K : PySem.W.Frag} {C : Addr} {H G : Hp} {x : Addr} {g : PrD} (e : Same H G) (h : ProgAt K C H x g) : ProgAt K C G x g := by
  obtain ⟨dx, wr, t, plA, chA, h1, h2, h3, h4, h5⟩ := h
  exact ⟨dx, wr, t, plA, chA, e _ _ h1, Same.sqT e h2, dp_same e _ _ h3, e _ _ h4, h5.same e⟩
theorem rowB_str {rs : List Str} {size en : Int} {d : PyData} (h : rowB rs size en d = true) : ∃ k ps, d = .tuple (.str k :: ps) := by
  match d, h with
  | .tuple (.str k :: ps), _ => exact ⟨k, ps, rfl⟩
def kV (ks : List Str) (ds : List PyData) (i : Nat) : Option V := if kAt ks ds i = true then some (.int (i : Nat)) else none
theorem none_back {H G : Hp} {D : Addr} (g : Same H G) (h : G D = none) : H D = none := by
  cases h2 : H D with
  | none => rfl
  | some o =>
    rw [g D o h2] at h
    cases h
section
variable {P : Program} {w : World} {K : PySem.W.Frag} {mg : Str → Option Value} {base : Heap}
/-! ### branches, steering, groups, meets -/
theorem ProgAt.look {C : Addr} {H : Hp} {x : Addr} {g : PrD} (h : ProgAt K C H x g) (m : Str) (e : (m == "registers") = false ∧ (m == "size") = false ∧ (m == "rows") = false ∧ (m == "end") = false ∧ (m == "places") = false ∧ (m == "changed") = false) : ∃ dx fs, H x = some (.ins C dx fs) ∧ fs.lookup m = none := by
  obtain ⟨dx, wr, t, plA, chA, h1, _⟩ := h
  refine ⟨dx, _, h1, ?_⟩
  obtain ⟨e1, e2, e3, e4⟩ := e
  simp only [List.lookup, e1, e2, e3, e4]
/-! ### len -/
/-! ### is_plain -/
end
end YY

set_option maxRecDepth 100000
set_option maxHeartbeats 4000000
namespace YY
open PySem PySem.Spec PyProof.Rows L2 XX
local macro_rules | `(tactic| walk_at "wp") => `(tactic| simp only [tSeq, tNext, tAsg, tPar, gName, tCB, tCons, tNil, tVar, tC, tOp, tUn, rI, rI0, rU, tLst, tTup, tFor_eq, iRng1, iRng2, iList, iTup, tRet, tRetN, tDrop, tIfS, tTest, tB, tAnd, tOr, tNot, tIf, tAndV, tOrV, tNotV, tCall, tBM, tBM0, rIxL, rIxT, rAppend, tLc_eq, gSub, rSetL, rEq, rNe, rMulS, rIxS, tRevT, gTup, gCons, gNil, wipe, tYes, LcEnd, tDisp, tPairs, tChain, tSl, tPart, tNoPart, rSlT, rSlL, rCatT, rCat, rRep, rIsD, V.ty.injEq, iZipB, tDNewK, tXf, wMA, wAs, rLenK, tLenSetS, rReprE, tVeI, tOst, tErr, tMkO, sFld, tFld, rIsE2, tMakeS, rListStr, tDNotIn, tDGet, rSetD, gSub, iEnumA, rIxD, iStr, rIn, rEqI, rLenI, tIxI, rSetI, rSortedSet, rEqK, tLc2_eq, tMeth, tMethX, StX.tStar, tLock, tLockE, iItems, iKeys,
  cxOf_K, cxOf_noxK, L2.start, List.map_cons, List.map_nil, List.length_cons, List.length_nil, Nat.reduceAdd, Nat.reduceSub, List.replicate_succ, List.replicate_zero, List.replicate, List.cons_append, List.nil_append, List.getElem?_cons_zero, List.getElem?_cons_succ, List.set_cons_zero, List.set_cons_succ, List.append_nil,
  Option.some.injEq, V.int.injEq, V.ref.injEq, V.bl.injEq, V.str.injEq, List.cons.injEq, and_true, true_and, exists_eq_left', exists_eq_left, exists_and_left, exists_and_right, exists_const, bool_ite_true, bool_ite_false, dec_ite, ndec_ite, reduceCtorEq, false_or, or_false, false_and, and_false, decide_eq_true_eq, and_assoc, reduceIte, ite_true, ite_false, Int.zero_add])

structure Bl4 (mg : Str → Option Value) : Prop extends Bl3 mg where
  n_sorted : mg "sorted" = none
/-! ### rows of a kind -/
theorem btw_int {d : PyData} {lo hi : Int} (h : btw d lo hi = true) : ∃ i : Int, d = .int i ∧ lo ≤ i ∧ i ≤ hi := by
  unfold btw at h
  cases d with
  | int i =>
    rw [Bool.and_eq_true, decide_eq_true_eq, decide_eq_true_eq] at h
    exact ⟨i, rfl, h⟩
  | _ => cases h
theorem rowB_parts {rs : List Str} {size en : Int} {k : Str} {ps : List PyData} {ns : List Str} (hf : formOf k = some ns) (h : rowB rs size en (.tuple (.str k :: ps)) = true) : partsB rs size en ps ns = true := by
  have e : rowB rs size en (.tuple (.str k :: ps)) = (match formOf k with
    | some ns => partsB rs size en ps ns
    | none => false) := rfl
  rw [e, hf] at h
  exact h
/-! ### two numbers, ascending, each once -/
/-! ### the ways of a row -/
section
variable {P : Program} {w : World} {K : PySem.W.Frag} {mg : Str → Option Value} {base : Heap}
end
end YY

set_option maxRecDepth 100000
set_option maxHeartbeats 4000000
namespace YY
open PySem PySem.Spec PyProof.Rows L2 XX
local macro_rules | `(tactic| walk_at "wp") => `(tactic| simp only [tSeq, tNext, tAsg, tPar, gName, tCB, tCons, tNil, tVar, tC, tOp, tUn, rI, rI0, rU, tLst, tTup, tFor_eq, iRng1, iRng2, iList, iTup, tRet, tRetN, tDrop, tIfS, tTest, tB, tAnd, tOr, tNot, tIf, tAndV, tOrV, tNotV, tCall, tBM, tBM0, rIxL, rIxT, rAppend, tLc_eq, gSub, rSetL, rEq, rNe, rMulS, rIxS, tRevT, gTup, gCons, gNil, wipe, tYes, LcEnd, tDisp, tPairs, tChain, tSl, tPart, tNoPart, rSlT, rSlL, rCatT, rCat, rRep, rIsD, V.ty.injEq, iZipB, tDNewK, tXf, wMA, wAs, rLenK, tLenSetS, rReprE, tVeI, tOst, tErr, tMkO, sFld, tFld, rIsE2, tMakeS, rListStr, tDNotIn, tDGet, rSetD, gSub, iEnumA, rIxD, iStr, rIn, rEqI, rLenI, tIxI, rSetI, rSortedSet, rEqK, tLc2_eq, tMeth, tMethX, StX.tStar, tLock, tLockE, iItems, iKeys,
  cxOf_K, cxOf_noxK, L2.start, List.map_cons, List.map_nil, List.length_cons, List.length_nil, Nat.reduceAdd, Nat.reduceSub, List.replicate_succ, List.replicate_zero, List.replicate, List.cons_append, List.nil_append, List.getElem?_cons_zero, List.getElem?_cons_succ, List.set_cons_zero, List.set_cons_succ, List.append_nil,
  Option.some.injEq, V.int.injEq, V.ref.injEq, V.bl.injEq, V.str.injEq, List.cons.injEq, and_true, true_and, exists_eq_left', exists_eq_left, exists_and_left, exists_and_right, exists_const, bool_ite_true, bool_ite_false, dec_ite, ndec_ite, reduceCtorEq, false_or, or_false, false_and, and_false, decide_eq_true_eq, and_assoc, reduceIte, ite_true, ite_false, Int.zero_add])

/-! ### programs compared -/
structure IsC (K : PySem.W.Frag) (C : Addr) : Prop where
  at_ : PySem.W.findIn K (.ref C) "__class__" = some (some (.builtin "object.__class__"))
  sp : PySem.W.specialIn K (.builtin "object.__class__") "__get__" = some (some (.builtin "getset_descriptor.__get__"))
  tk : PySem.W.takesIn K (.builtin "object.__class__") = some true
  mro : PySem.W.mroIn K C (.type "object") = some true
  tup : PySem.W.kitOne K (.type "tuple") (.ref C) = some false
theorem kit_self (K : PySem.W.Frag) (C : Addr) : PySem.W.kitOne K (.ref C) (.ref C) = some true := by
  unfold PySem.W.kitOne
  rw [if_pos (by simp)]
theorem PrD.Ok.smT {g : PrD} (h : g.Ok) : sm (.tuple g.ds) = true := by
  rw [sm, Bool.and_eq_true]
  exact ⟨decide_eq_true (by have := h.most; omega), sms_of fun d hd => (h.sml d hd).s⟩
theorem PrD.Ok.shW {g : PrD} (h : g.Ok) : SeqAt.shaped (.tuple (g.ws.map PyData.str)) = true := by
  refine sm_shaped h.smw ?_
  have e2 := depth_strs g.ws
  simp only [PyData.depth]
  omega
section
variable {P : Program} {w : World} {K : PySem.W.Frag} {mg : Str → Option Value} {base : Heap}
end
end YY

set_option maxRecDepth 100000
set_option maxHeartbeats 4000000
namespace YY
open PySem PySem.Spec PyProof.Rows L2 XX
local macro_rules | `(tactic| walk_at "wp") => `(tactic| simp only [tSeq, tNext, tAsg, tPar, gName, tCB, tCons, tNil, tVar, tC, tOp, tUn, rI, rI0, rU, tLst, tTup, tFor_eq, iRng1, iRng2, iList, iTup, tRet, tRetN, tDrop, tIfS, tTest, tB, tAnd, tOr, tNot, tIf, tAndV, tOrV, tNotV, tCall, tBM, tBM0, rIxL, rIxT, rAppend, tLc_eq, gSub, rSetL, rEq, rNe, rMulS, rIxS, tRevT, gTup, gCons, gNil, wipe, tYes, LcEnd, tDisp, tPairs, tChain, tSl, tPart, tNoPart, rSlT, rSlL, rCatT, rCat, rRep, rIsD, V.ty.injEq, iZipB, tDNewK, tXf, wMA, wAs, rLenK, tLenSetS, rReprE, tVeI, tOst, tErr, tMkO, sFld, tFld, rIsE2, tMakeS, rListStr, tDNotIn, tDGet, rSetD, gSub, iEnumA, rIxD, iStr, rIn, rEqI, rLenI, tIxI, rSetI, rSortedSet, rEqK, tLc2_eq, tMeth, tMethX, StX.tStar, tLock, tLockE, iItems, iKeys,
  cxOf_K, cxOf_noxK, L2.start, List.map_cons, List.map_nil, List.length_cons, List.length_nil, Nat.reduceAdd, Nat.reduceSub, List.replicate_succ, List.replicate_zero, List.replicate, List.cons_append, List.nil_append, List.getElem?_cons_zero, List.getElem?_cons_succ, List.set_cons_zero, List.set_cons_succ, List.append_nil,
  Option.some.injEq, V.int.injEq, V.ref.injEq, V.bl.injEq, V.str.injEq, List.cons.injEq, and_true, true_and, exists_eq_left', exists_eq_left, exists_and_left, exists_and_right, exists_const, bool_ite_true, bool_ite_false, dec_ite, ndec_ite, reduceCtorEq, false_or, or_false, false_and, and_false, decide_eq_true_eq, and_assoc, reduceIte, ite_true, ite_false, Int.zero_add])

theorem firstBad_ok {ws : List Str} {size : Int} {ds : List PyData} (h : ∀ d ∈ ds, rowB ws size ds.length d = true) : firstBad ws size ds = none :=
  find_none fun j d hd => by rw [h d (List.mem_of_getElem? hd)]; rfl
theorem strsOf_map (ws : List Str) : strsOf (.tuple (ws.map PyData.str)) = ws := by
  show (ws.map PyData.str).filterMap _ = ws
  induction ws with
  | nil => rfl
  | cons w ws ih =>
    rw [List.map_cons, List.filterMap_cons]
    show w :: _ = _
    rw [ih]
theorem rowsOk_of {rd : PyData} {es : List PyData} (hi : itemsOf rd = some es) (h1 : 1 ≤ es.length) (h2 : es.length ≤ 24) : rowsOk rd = true := by
  unfold rowsOk
  rw [hi]
  show (decide (1 ≤ es.length) && decide (es.length ≤ 24)) = true
  rw [decide_eq_true h1, decide_eq_true h2]
  rfl
theorem prog_of {K : PySem.W.Frag} {C x dx t plA chA : Addr} {G : Hp} {r : V} {ws : List Str} {size : Int} {es : List PyData} (hx : G x = some (.ins C dx [("registers", r), ("size", .int size), ("rows", .ref t), ("end", .int (es.length : Nat)), ("places", .ref plA), ("changed", .ref chA)]))
    (hr : Dp K G r (.tuple (ws.map PyData.str))) (ht : Dp K G (.ref t) (.tuple es)) (h4 : G plA = some (.dK (plcK ws))) (h5 : ChAt K G chA size.toNat ws) : ProgAt K C G x ⟨ws, size, es⟩ := by
  obtain ⟨wr, rfl, hw⟩ := dp_strs hr
  exact ⟨dx, wr, t, plA, chA, hx, hw, ht, h4, h5⟩
section
variable {kws : List (Str × V)} {P : Program} {w : World} {K : PySem.W.Frag} {mg : Str → Option Value} {base : Heap}
/-- making a program of good rows -/
theorem spProg_good {cR cN cW cB x C dx : Addr} {H : Hp} {rv wv : V} {rd : PyData} {g : PrD} {Q : VK} {E : XK} (hx : H x = some (.ins C dx [])) (pc : ProgC K C) (hr : Dp K H rv rd) (hrs : sm rd = true) (hi : itemsOf rd = some g.ds)
    (hw : Dp K H wv (.tuple (g.ws.map PyData.str))) (hok : g.Ok) (k : ∀ G, Ex x H G → ProgAt K C G x g → Q .non G) : spProg K C cR cN cW cB [.ref x, rv, wv, .int g.size] H Q E := by
  have b23 : btw (.int g.size) 2 3 = true := by
    show (decide (2 ≤ g.size) && decide (g.size ≤ 3)) = true
    rw [decide_eq_true hok.size2, decide_eq_true hok.size3]
    rfl
  have nb := firstBad_ok (ds := g.ds) (ws := g.ws) (size := g.size) hok.rows
  refine ⟨x, dx, rv, wv, .int g.size, rd, _, .int g.size, rfl, hx, .inl hr, fun _ => hrs, hw, hok.smw, .int _, fun e => ?_, fun _ e => ?_, fun _ _ e => ?_, fun _ _ ds hi' _ => ⟨fun i e => ?_, fun _ G r t plA chA ex hG hrr ht h4 h5 => ?_⟩⟩
  · rw [hok.regs] at e
    cases e
  · rw [b23] at e
    cases e
  · rw [rowsOk_of hi hok.least hok.most] at e
    cases e
  · rw [hi] at hi'
    cases hi'
    rw [strsOf_map] at e
    have e' : firstBad g.ws g.size g.ds = some i := e
    rw [nb] at e'
    cases e'
  · rw [hi] at hi'
    cases hi'
    rw [strsOf_map] at h4 h5
    exact k G ex (prog_of hG hrr ht h4 h5)
end
/-! ### the plan's program -/
theorem word_B {z : Str} (h : IsWord z) : wordS z = true := by
  unfold wordS
  rw [Bool.and_eq_true, Bool.and_eq_true, decide_eq_true_eq, decide_eq_true_eq]
  exact ⟨⟨h.1, h.2.1⟩, List.all_eq_true.mpr fun c hc => decide_eq_true (h.2.2 c hc)⟩
theorem btw_of {i lo hi : Int} (h0 : lo ≤ i) (h1 : i ≤ hi) : btw (.int i) lo hi = true := by
  show (decide (lo ≤ i) && decide (i ≤ hi)) = true
  rw [decide_eq_true h0, decide_eq_true h1]
  rfl
theorem words_regs {ws : List Str} (h : WordsOk ws) : regsB (.tuple (ws.map PyData.str)) = true := by
  match ws, h with
  | [], h => exact absurd h.least (by decide)
  | [a], h => exact word_B (h.all a (List.mem_cons_self ..))
  | [a, b], h =>
    show (wordS a && wordS b && !(a == b)) = true
    rw [word_B (h.all a (List.mem_cons_self ..)), word_B (h.all b (List.mem_cons_of_mem _ (List.mem_cons_self ..)))]
    have nd := h.nd
    have e : (a == b) = false := beq_false_of_ne fun z => by
      rw [z] at nd
      simp at nd
    rw [e]
    rfl
  | _ :: _ :: _ :: _, h => exact absurd h.most (by simp)
section
variable {kws : List (Str × V)} {P : Program} {w : World} {K : PySem.W.Frag} {mg : Str → Option Value} {base : Heap}
/-! ### _law_program -/
end
end YY

set_option maxRecDepth 100000
set_option maxHeartbeats 4000000
/-! x is not True, x a truth -/
namespace XX
open PySem PySem.Spec PyProof.Rows L2
end XX

set_option maxRecDepth 100000
set_option maxHeartbeats 4000000
namespace XX
open PySem PySem.Spec PyProof.Rows L2
section
variable {X : Cx} {k : Nat} {C : Addr} {sp : Sp}
/-- repr(o), by an own __repr__ -/
def rReprI (C : Addr) (sp : Sp) : List V → Hp → VK → Prop := fun xs H Q => ∃ a dx fs, xs = [.ref a] ∧ H a = some (.ins C dx fs) ∧ sp xs H (fun v H' => ∃ z : Str, v = .str z ∧ Q (.str z) H') E0
end
end XX

set_option maxRecDepth 100000
set_option maxHeartbeats 4000000
/-! an own __repr__ within an except suite, whatever the handled exception bears -/
namespace XX
open PySem PySem.Spec PyProof.Rows L2 L2H
/-- a def that raises nothing, called while something is handled -/
structure FnW (P : Program) (w : World) (K : PySem.W.Frag) (mg : Str → Option Value) (base : Heap) (k : Nat) (f : Addr) (fd : FuncData) (ps : List Str) (sp : Sp) : Prop where
  len : ∀ vs H Q E, sp vs H Q E → vs.length = ps.length
  run : ∀ (A : Around) (outer : List Env) (s : Shared) (H : Hp) (args : Args) (us : List Value) (vs : List V) (Q : VK) (p : Addr × Obj), RoomH k A → PinOk outer H s p → Env0 P w K mg base A outer s H → BindsTo s fd args (ps.zip us) → Vals vs us → sp vs H Q E0 →
    codeAny (model P w) A (.call (.ref f) args) (CR CX0 outer P w H s Q E0) s
section
variable {P : Program} {w : World} {K : PySem.W.Frag} {mg : Str → Option Value} {base : Heap}
end
section
variable {X : Cx} {k : Nat} {f C : Addr} {fd : FuncData} {sp : Sp}
theorem RoomH.in1 {k : Nat} {A : Around} (r : RoomH (k + 1) A) : RoomH k A.in1 :=
  ⟨by have := r.dp; show A.depth + 3 * k + 5 < _; omega, by have := r.un; show A.units + 1 + 16 * k + 200 < _; omega⟩
end
end XX

set_option maxRecDepth 100000
set_option maxHeartbeats 4000000
/-! comprehensions over a tuple while an exception whose context is None is handled -/
namespace XX
open PySem PySem.Spec PyProof.Rows L2 L2H HotX
/-! ### iterators walked while an exception is handled -/
/-- as Turn, but at the end the handled exception is told in the place of a calm context -/
structure TurnW (P : Program) (w : World) (K : PySem.W.Frag) (tg : Expr) (J : It) (fp : List Addr) (it : Addr) (tn : Nat → Heap → Prop) : Prop where
  obj : ∀ n g, tn n g → ∀ y ∈ fp, ∃ o, g.get? y = some o ∧ ∀ v, o.data ≠ .cell v
  keep : ∀ n g g', tn n g → (∀ y ∈ fp, ∀ o, g.get? y = some o → g'.get? y = some o) → tn n g'
  item : ∀ (X : Cx), X.prog = P → X.w = w → X.K = K → ∀ (n : Nat) (pins : List (Addr × Obj)) (s : Shared) (σ : L2.St) (H : Hp) (E : Value → Shared → Prop), Inv X pins σ H s → (∀ y ∈ fp, FpOk X pins H y) → tn n s.heap → J.go n H →
    wpAny (model P w) X.A (pyNext (.ref it)) (fun r s1 => ∃ u, r = some u ∧ wpAny (model P w) X.A (letOwnedTupleGo tg (.ref it) u) (fun _ s2 => ∃ x H', Inv X pins σ H' s2 ∧ RelV x u ∧ J.yld n H x H' ∧ tn (n + 1) s2.heap ∧ ∀ y ∈ fp, H' y = none) E s1) E s
  done : ∀ (X : Cx), X.prog = P → X.w = w → X.K = K → ∀ (n : Nat) (pins : List (Addr × Obj)) (s : Shared) (σ : L2.St) (H : Hp) (E : Value → Shared → Prop) (x1 : Addr), HotAt X.A x1 s.heap → x1 ∉ fp → Inv X pins σ H s → (∀ y ∈ fp, FpOk X pins H y) → tn n s.heap → J.stop n H →
    wpAny (model P w) X.A (pyNext (.ref it)) (fun r s1 => r = none ∧ Inv X pins σ H s1) E s
  self : ∀ (A : Around) (n : Nat) (s : Shared) (Q : Value → Shared → Prop) (E : Value → Shared → Prop), tn n s.heap → Q (.ref it) s → wpAny (model P w) A (pyIter (.ref it)) Q E s
section
variable {X : Cx}
end
end XX

set_option maxRecDepth 100000
set_option maxHeartbeats 4000000
/-! try: .. except (C1, C2) as n: .. -/
namespace XX
open PySem PySem.Spec PyProof.Rows L2
section
variable {X : Cx} {n x1 x2 : Str} {c1 c2 : Value} {i kk : Nat} {body suite : List Stmt} {b₀ : Stmt} {p1 p2 tpos pos' pos : Pos} {tb : WX → TS} {ts : Addr → Value → Option Addr → TS} {Wout : WX}
end
end XX

set_option maxRecDepth 100000
set_option maxHeartbeats 4000000
/-! raising where nothing is handled: the exception's context is None, and is told so (L2N's CX in the place of L2's) -/
namespace XX
open PySem PySem.Spec PyProof.Rows L2 L2H HotX
section
variable {P : Program} {w : World} {K : PySem.W.Frag} {mg : Str → Option Value} {base : Heap}
end
section
variable {X : Cx}
end
inductive HdsN (X : Cx) (n : Str) : List ExceptHandler → List Clause → Prop
  | nil : HdsN X n [] []
  | cons {x : Str} {c : Value} {ts : Addr → Value → Option Addr → TS} {b₀ : Stmt} {suite : List Stmt} {np pos' : Pos} {hds : List ExceptHandler} {l : List Clause} (hc : Names X x c)
      (hsu : ∀ (a : Addr) (oe : Obj) (cls : Value) (d : Option Addr) (pn : List (Addr × Obj)), L2N.Zn cls d oe → (∃ vs, oe.data = .fields vs) → HotC (X.suite a ((a, oe) :: pn)) → PSs (X.suite a ((a, oe) :: pn)) (b₀ :: suite) (ts a cls d)) (r : HdsN X n hds l) :
      HdsN X n (.ExceptHandler (some (.Name x np)) (some n) (b₀ :: suite) pos' :: hds) ((c, ts) :: l)
section
variable {X : Cx} {n : Str} {i : Nat} {body : List Stmt} {h₀ : ExceptHandler} {hds : List ExceptHandler} {l : List Clause} {pos : Pos} {tb : WX → TS} {Wout : WX}
end
section
variable {P : Program} {w : World} {K : PySem.W.Frag} {mg : Str → Option Value} {base : Heap}
end
end XX

set_option maxRecDepth 100000
set_option maxHeartbeats 4000000
/-! repr of a list whose items may be own instances, by their own __repr__ -/
namespace XX
open PySem PySem.Spec PyProof.Rows L2 L2H HotX
open Builtin Builtin.List
section
variable {prog : Program} {w : World} {A : Around} {E : Value → Shared → Prop} {s : Shared} {K : PySem.W.Frag} {x C L f : Addr} {h₀ : Heap} {m : Str → Option Value} {ox : Obj} {od : Option Obj}
end
section
variable {X : Cx} {pins : List (Addr × Obj)} {σ : L2.St}
theorem loop_depth {A : Around} {args : Args} : (A.under (.builtin "list.__repr__.loop" args)).depth = A.depth + 1 := by
  first | rfl | simp [Around.under, Code.weight, Code.isCreation, Code.isGuard, Code.isCaller, Code.frames, Code.isFrame, guardIds]
theorem loop_handled {A : Around} {args : Args} : (A.under (.builtin "list.__repr__.loop" args)).handled = A.handled := by
  first | rfl | simp [Around.under, Code.isFrame]
theorem Room.loop {k : Nat} {A : Around} (r : Room (k + 1) A) (args : Args) : Room k (A.under (.builtin "list.__repr__.loop" args)) :=
  ⟨by rw [loop_handled]; exact r.hd, by have := r.dp; rw [loop_depth]; omega, by have := r.un; rw [units_under_list_loop]; omega⟩
theorem Env0.loop {P : Program} {w : World} {K : PySem.W.Frag} {mg : Str → Option Value} {base : Heap} {A : Around} {outer : List Env} {s : Shared} {H : Hp} (e : Env0 P w K mg base A outer s H) (args : Args) : Env0 P w K mg base (A.under (.builtin "list.__repr__.loop" args)) outer s H :=
  ⟨by first | exact e.frames | (simpa [Around.under, Code.envs, Code.isFrame, pushEnvs] using e.frames), e.mod, e.bs, e.bsz, e.funs, e.frf, e.hok, e.bare⟩
theorem RoomH.loop {k : Nat} {A : Around} (r : RoomH (k + 1) A) (args : Args) : RoomH k (A.under (.builtin "list.__repr__.loop" args)) :=
  ⟨by have := r.dp; rw [loop_depth]; omega, by have := r.un; rw [units_under_list_loop]; omega⟩
end
end XX

set_option maxRecDepth 100000
set_option maxHeartbeats 4000000
/-! x is not True, x of any plain kind -/
namespace XX
open PySem PySem.Spec PyProof.Rows L2
inductive Pln : V → Prop
  | non : Pln .non
  | bl (b : Bool) : Pln (.bl b)
  | int (i : Int) : Pln (.int i)
  | str (z : Str) : Pln (.str z)
end XX

set_option maxRecDepth 100000
set_option maxHeartbeats 4000000
/-! f(e, .., k = v, ..) where f may raise, told by the state at the call -/
namespace XX
open PySem PySem.Spec PyProof.Rows L2
section
variable {X : Cx} {CX : CXT} {k n : Nat} {f : Addr} {fd : FuncData} {ps ks : List Str} {sp : Sp} {E : L2.St → XK} {x : Str} {p pos : Pos} {e : Expr} {es : List Expr} {kws : List Keyword} {t tk : TA} {g : List Value → List Value → List Value} {gV : List V → List V → List V}
end
end XX

set_option maxRecDepth 100000
set_option maxHeartbeats 4000000
/-! repr of a list whose items may be own instances or the empty tuple (XBG anew, the list told to its items) -/
namespace XX
open PySem PySem.Spec PyProof.Rows L2 L2H HotX
open Builtin Builtin.List
section
variable {X : Cx} {pins : List (Addr × Obj)} {σ : L2.St}
end
end XX

set_option maxRecDepth 100000
set_option maxHeartbeats 4000000
namespace PySem.W
open PySem PySem.Calls PyProof.Rows
/-! ### own + and * of plain instances, on either side -/
section
variable {prog : Program} {w : World} {A : Around} {E : Value → Shared → Prop} {s : Shared} {K : Frag} {x C L f f0 : Addr} {h₀ : Heap} {m : Str → Option Value} {ox : Obj} {od : Option Obj} {T : String}
end
end PySem.W

set_option maxRecDepth 100000
set_option maxHeartbeats 4000000
namespace XX
open PySem PySem.Spec PyProof.Rows L2
/-- what an own operator asks of its class -/
structure OpC (K : PySem.W.Frag) (C : Addr) (op : Operator) : Prop where
  first : PySem.W.selfFirst K C = true
  r : ∃ rc, PySem.W.findIn K (.ref C) (dunderR op.info.2) = some rc ∧ (rc = none ∨ ∃ g : Addr, rc = some (.ref g))
/-- .. of a built-in type beside it -/
structure OpT (K : PySem.W.Frag) (C : Addr) (op : Operator) (T : String) : Prop where
  l : ∃ fo ro, PySem.W.findIn K (.type T) (PySem.dunder op.info.2) = some fo ∧ PySem.W.findIn K (.type T) (dunderR op.info.2) = some ro
  sub : PySem.W.subIn K (.type T) (.ref C) = some false
/-- .. that fills no number slot -/
def OpN (K : PySem.W.Frag) (op : Operator) (T : String) : Prop := ∃ fo ro, PySem.W.findIn K (.type T) (PySem.dunder op.info.2) = some fo ∧ PySem.W.findIn K (.type T) (dunderR op.info.2) = some ro ∧ ((fo.isSome && !isSeqSlot fo) || (ro.isSome && !isSeqSlot ro)) = false
section
variable {X : Cx} {CX : CXT} {k : Nat} {C : Addr} {sp : Sp} {op : Operator}
/-- a op b, a an instance of C -/
def tOpI (K : PySem.W.Frag) (C : Addr) (op : Operator) (sp : Sp) (E : L2.St → XK) (ta tb : TE) : TE := fun σ H Q => ta σ H fun x H1 => tb σ H1 fun y H2 => ∃ a dx fs, x = .ref a ∧ H2 a = some (.ins C dx fs) ∧ ((∃ b dy gs, y = .ref b ∧ H2 b = some (.ins C dy gs)) ∨ ∃ T, TyX K H2 y (.type T) ∧ OpT K C op T) ∧ sp [x, y] H2 Q (E σ)
/-- a op b, b an instance of C, a of a built-in type without number slots -/
def tOpR (K : PySem.W.Frag) (C : Addr) (op : Operator) (sp : Sp) (E : L2.St → XK) (ta tb : TE) : TE := fun σ H Q => ta σ H fun x H1 => tb σ H1 fun y H2 => ∃ b dy gs, y = .ref b ∧ H2 b = some (.ins C dy gs) ∧ (∃ T, TyX K H2 x (.type T) ∧ OpN K op T) ∧ sp [y, x] H2 Q (E σ)
end
end XX

set_option maxRecDepth 100000
set_option maxHeartbeats 4000000
namespace PySem
open Sem (wp)
open Builtin
end PySem
namespace PySem.W
open PySem PySem.Calls PyProof.Rows
section
variable {prog : Program} {w : World} {A : Around} {E : Value → Shared → Prop} {s : Shared} {K : Frag} {x C L f f0 : Addr} {h₀ : Heap} {m : Str → Option Value} {ox : Obj} {od : Option Obj} {T : String}
end
end PySem.W
namespace XX
open PySem PySem.Spec PyProof.Rows L2
section
variable {X : Cx} {CX : CXT} {k : Nat} {C : Addr} {sp : Sp}
/-- n * b, b an instance of C, n an int or a bool -/
def tMulD (C : Addr) (sp : Sp) (E : L2.St → XK) (ta tb : TE) : TE := fun σ H Q => ta σ H fun x H1 => tb σ H1 fun y H2 => ∃ b dy gs, y = .ref b ∧ H2 b = some (.ins C dy gs) ∧ ((∃ i, x = .int i) ∨ ∃ t, x = .bl t) ∧ sp [y, x] H2 Q (E σ)
end
end XX

set_option maxRecDepth 100000
set_option maxHeartbeats 4000000
namespace XX
open PySem PySem.Spec PyProof.Rows L2
/-! ### defs with *args: the tuple is laid when they are called -/
abbrev SpV := List V → List V → Hp → VK → XK → Prop
structure FnV (P : Program) (w : World) (K : PySem.W.Frag) (mg : Str → Option Value) (base : Heap) (CX : CXT) (k : Nat) (f : Addr) (ps : List Str) (sp : SpV) : Prop where
  lenV : ∀ vs xs H Q E, sp vs xs H Q E → vs.length = ps.length ∧ xs.length ≤ 1000
  runV : ∀ (A : Around) (outer : List Env) (s : Shared) (H : Hp) (us ws : List Value) (vs xs : List V) (Q : VK) (E : XK), Room k A → Env0 P w K mg base A outer s H → Vals vs us → Vals xs ws → sp vs xs H Q E →
    codeAny (model P w) A (.call (.ref f) ⟨us ++ ws, []⟩) (CR CX outer P w H s Q E) s
section
variable {P : Program} {w : World} {K : PySem.W.Frag} {mg : Str → Option Value} {base : Heap}
end
end XX

set_option maxRecDepth 100000
set_option maxHeartbeats 4000000
namespace XX
open PySem PySem.Spec PyProof.Rows L2
section
variable {X : Cx} {CX : CXT} {k : Nat} {f C : Addr} {sp : Sp} {E : XK} {x : Str} {e : Expr} {te : TE} {p sp_ pos : Pos}
/-- C(*y): an instance made of the items of y -/
def tMakeV (K : PySem.W.Frag) (C : Addr) (sp : Sp) (E : XK) (te : TE) : TE := fun σ H Q => te σ H fun y H1 => ∃ a xs, y = V.ref a ∧ (SqT K H1 a xs ∨ SqL K H1 a xs) ∧ ∀ z dx, H1 z = none → H1 dx = none → dx ≠ z →
  sp (V.ref z :: xs) (upd (upd H1 dx (.own z)) z (.ins C dx [])) (fun v H2 => v = .non ∧ Q (.ref z) H2) E
end
/-! ### a staticmethod, called by its class -/
structure SMet (K : PySem.W.Frag) (C : Addr) (mc : Value) (m : Str) (p g : Addr) : Prop where
  at_ : PySem.W.findCls K (.ref C) mc m = some (.get (.builtin "staticmethod.__get__") (.ref p) .none (.ref C))
  rc : ∃ rest, PySem.W.recIn K p "staticmethod" = some (.ref g :: rest)
  kp : PySem.W.keepIn K (.ref g) = true
/-- e.m(..), e the class at C -/
def tSMeth (C : Addr) (sp : Sp) (E : L2.St → XK) (ta : TE) (t : TA) : TE := fun σ H Q => ta σ H fun x H1 => x = .ref C ∧ t σ H1 fun vs H2 => sp vs H2 Q (E σ)
section
variable {X : Cx} {CX : CXT} {k : Nat} {C p g : Addr} {mc : Value} {fd : FuncData} {ps : List Str} {sp : Sp} {E : L2.St → XK} {o e : Expr} {es : List Expr} {m : Str} {pos apos : Pos} {ta : TE} {t : TA} {pl : Sem Bool}
end
end XX

set_option maxRecDepth 100000
set_option maxHeartbeats 4000000
namespace L2
open PySem PySem.Spec PyProof.Rows XX
theorem tuple_mul1 (l : Addr) (items : Array Value) (n : Nat) (dd : Option Addr) (sl : Array (Option Value)) (x : Int) (u : Tok) (c0 : (decide (x < -(2 ^ 63)) || decide (x ≥ 2 ^ 63)) = false) (c1 : (items.isEmpty || x == 1) = true) :
    Meets (Builtin.«tuple.__mul__» ⟨[.ref l, .int x u], []⟩) (fun _ R s => s.heap.get? l = some { cls := .type "tuple", dict := dd, data := .seq items n, slots := sl } ∧ R (.ok (.ret (.ref l))) s) :=
  .of_wp fun prog w A R s h => by
    obtain ⟨hp, g, d, tk, os⟩ := s
    obtain ⟨hl, h⟩ := h
    have f1 := AutoSeq1.idx_int
    wp_walk using wpAny_loadPart' hl
    repeat (first
      | (refine wpAny_ite_false (decide_eq_false (by rw [c0]; exact Bool.false_ne_true)) ?_; wp_walk using wpAny_loadPart' hl)
      | (refine wpAny_ite_true (decide_eq_true (by rw [c1])) ?_; wp_walk using wpAny_loadPart' hl))
    exact ⟨_, rfl, h⟩
section
variable {X : Cx}
/-- t * k for any k up to 1000 -/
def rRepA (K : PySem.W.Frag) : R2 := fun x y H Q => ∃ l k xs, x = .ref l ∧ y = .int k ∧ SqT K H l xs ∧ -1000 ≤ k ∧ k ≤ 1000 ∧ xs.length ≤ 1000 ∧ ∀ p G, Same H G → SqT K G p (List.replicate k.toNat xs).flatten → Q (.ref p) G
end
end L2

set_option maxRecDepth 100000
set_option maxHeartbeats 4000000
namespace XX
open PySem PySem.Spec PyProof.Rows L2
/-! ### an instance made by a positional promise, where the call may raise at the slots -/
section
variable {X : Cx} {CX : CXT} {k : Nat} {f C : Addr} {sp : Sp} {x : Str} {e : Expr} {es : List Expr} {te : TE} {t : TA} {p sp_ pos : Pos}
def tMakeVS (K : PySem.W.Frag) (C : Addr) (sp : Sp) (D : L2.St → XK) (te : TE) : TE := fun σ H Q => te σ H fun y H1 => ∃ a xs, y = V.ref a ∧ (SqT K H1 a xs ∨ SqL K H1 a xs) ∧ ∀ z dx, H1 z = none → H1 dx = none → dx ≠ z →
  sp (V.ref z :: xs) (upd (upd H1 dx (.own z)) z (.ins C dx [])) (fun v H2 => v = .non ∧ Q (.ref z) H2) (D σ)
def tMakeRS (C : Addr) (sp : Sp) (D : L2.St → XK) (t : TA) : TE := fun σ H Q => t σ H fun vs H1 => ∀ z dx, H1 z = none → H1 dx = none → dx ≠ z →
  sp (V.ref z :: vs) (upd (upd H1 dx (.own z)) z (.ins C dx [])) (fun v H2 => v = .non ∧ Q (.ref z) H2) (D σ)
end
end XX

set_option maxRecDepth 100000
set_option maxHeartbeats 4000000
namespace XX
open PySem PySem.Spec PyProof.Rows L2
section
variable {X : Cx} {CX : CXT} {k : Nat} {C : Addr} {sp : Sp}
/-- x * b, b an instance of C, x an int, a bool, or of a built-in type without number slots -/
def tMulA (K : PySem.W.Frag) (C : Addr) (sp : Sp) (E : L2.St → XK) (ta tb : TE) : TE := fun σ H Q => ta σ H fun x H1 => tb σ H1 fun y H2 => ∃ b dy gs, y = .ref b ∧ H2 b = some (.ins C dy gs) ∧ (((∃ i, x = .int i) ∨ ∃ t, x = .bl t) ∨ ∃ T, TyX K H2 x (.type T) ∧ OpN K .Mult T) ∧ sp [y, x] H2 Q (E σ)
/-! ### the same where K is told -/
end
end XX

set_option maxRecDepth 100000
set_option maxHeartbeats 4000000
namespace PySem.SeqAt
open AutoSeq1 (wpAny_loadPart')
open MeetsSeq MeetsSeq2 MeetsSeq3 SeqRoads2
/-! ### != of lists whose items are equal, one by one -/
section
variable {prog : Program} {w : World} {x y : Addr} {us ws : Array Value} {m1 m2 : Nat} {d1 d2 : Option Addr} {s1 s2 : Array (Option Value)}
end
end PySem.SeqAt
namespace XX
open PySem PySem.Spec PyProof.Rows L2
/-- != of two lists of equal items of nesting below n: texts, numbers, lists and dicts -/
def rNeV (K : PySem.W.Frag) : R2 := fun x y H Q => ∃ (n : Nat) (a b : Addr) (xs ys : List V), n ≤ 60 ∧ x = .ref a ∧ y = .ref b ∧ SqL K H a xs ∧ SqL K H b ys ∧ Paired (EqV K H n) xs ys ∧ Q (.bl false) H
end XX

set_option maxRecDepth 100000
set_option maxHeartbeats 4000000
namespace XX
open PySem PySem.Spec PyProof.Rows L2
/-! ### in comprehensions: rules that want K told -/
/-- isinstance of data, or of an empty dict -/
def rIsE (T : String) (K : PySem.W.Frag) : List V → Hp → VK → Prop := fun xs H Q => ∃ (x : V) (d : PyData), xs = [x, .ty T] ∧ DpE K H x d ∧ Q (.bl (isTy (tyOf d) T)) H
end XX

set_option maxRecDepth 100000
set_option maxHeartbeats 4000000
namespace XX
open PySem PySem.Spec PyProof.Rows L2
/-! ### an instance made of nothing, by a positional promise -/
section
variable {X : Cx} {CX : CXT} {k : Nat} {f C : Addr} {sp : Sp} {x : Str} {p pos : Pos}
end
end XX

set_option maxRecDepth 100000
set_option maxHeartbeats 4000000
/-! max(t, default=d) of a tuple of ints -/
namespace XX
open PySem PySem.Spec PyProof.Rows L2
section
variable {X : Cx}
/-- max(t, default=d) -/
def rMaxDef (K : PySem.W.Frag) : List V → List V → Hp → VK → Prop := fun vs zs H Q => ∃ (a : Addr) (ns : List Int) (d : Int), vs = [V.ref a] ∧ SqT K H a (ns.map V.int) ∧ zs = [V.int d] ∧ ∀ m : Int, (ns = [] → m = d) → (ns ≠ [] → m ∈ ns ∧ ∀ y ∈ ns, y ≤ m) → Q (.int m) H
end
end XX

set_option maxRecDepth 100000
set_option maxHeartbeats 4000000
/-! d[t], t a tuple of ints and texts, however it stands -/
namespace XX
open PySem PySem.Spec PyProof.Rows L2
def tDGetT (K : PySem.W.Frag) (td ty : TE) : TE := fun σ H Q => td σ H fun x H1 => ty σ H1 fun y H2 => ∃ (a b : Addr) (kvs : List (List Key × V)) (k : List Key) (v : V), x = .ref a ∧ y = .ref b ∧ H2 a = some (.dT kvs) ∧ SqT K H2 b (k.map kV) ∧ valV kvs k = some v ∧ Q v H2
section
variable {X : Cx} {o i : Expr} {pos : Pos} {td ty : TE}
end
end XX

set_option maxRecDepth 100000
set_option maxHeartbeats 4000000
/-! all arguments by position, for pe_makeS -/
namespace XX
open PySem PySem.Spec PyProof.Rows L2
end XX

set_option maxRecDepth 100000
set_option maxHeartbeats 4000000
/-! a method without arguments that may raise, at the slots -/
namespace XX
open PySem PySem.Spec PyProof.Rows L2
section
variable {X : Cx} {CX : CXT} {k : Nat} {C : Addr} {m : Str} {ps : List Str} {sp : Sp} {E : L2.St → XK} {pos apos : Pos} {o : Expr} {ta : TE} {pl : Sem Bool}
end
end XX

set_option maxRecDepth 100000
set_option maxHeartbeats 4000000
/-! own == and != beside a value of any type that is not under the class -/
namespace XX
open PySem PySem.Spec PyProof.Rows L2
def BesT (K : PySem.W.Frag) (C : Addr) (H : Hp) (y : V) : Prop := (∃ b dy gs, y = .ref b ∧ H b = some (.ins C dy gs)) ∨ (∃ t, TyX K H y t ∧ PySem.W.notFirst K C t = true)
def rEqT (K : PySem.W.Frag) (C : Addr) (sp : Sp) : R2 := fun x y H Q => ∃ a dx fs, x = .ref a ∧ H a = some (.ins C dx fs) ∧ BesT K C H y ∧ sp [x, y] H (fun v H' => ∃ b, v = .bl b ∧ Q (.bl b) H') E0
section
variable {X : Cx} {k : Nat} {C : Addr} {sp : Sp}
end
end XX

set_option maxRecDepth 100000
set_option maxHeartbeats 4000000
/-! set(list of ints): how many it holds -/
namespace XX
open PySem PySem.Spec PyProof.Rows L2
def rSetIM (K : PySem.W.Frag) (w : World) : List V → Hp → VK → Prop := fun vs H Q => ∃ (l : Addr) (ns : List Int), vs = [.ref l] ∧ SqL K H l (ns.map V.int) ∧ ns.length ≤ 1000 ∧ ∀ (p : Addr) (L : List Int), H p = none → L.Nodup → (∀ k, k ∈ L ↔ k ∈ ns) → L.length ≤ ns.length → Q (.ref p) (upd H p (SetO w p (fun z => decide (z ∈ ns)) L.length))
end XX

set_option maxRecDepth 100000
set_option maxHeartbeats 4000000
/-! an expression that is never reached -/
namespace XX
open PySem PySem.Spec PyProof.Rows L2
end XX

set_option maxRecDepth 100000
set_option maxHeartbeats 4000000
/-! two rules for one built-in: either serves -/
namespace XX
open PySem PySem.Spec PyProof.Rows L2
end XX

namespace XX
/-! ### what is come to by steps, without what is barred -/
inductive Rch (ways : Nat → List Nat) (S : List Nat) (B : Nat → Prop) : Nat → Prop
  | base {v : Nat} : v ∈ S → ¬ B v → Rch ways S B v
  | step {u v : Nat} : Rch ways S B u → v ∈ ways u → ¬ B v → Rch ways S B v
theorem Rch.mono {ways : Nat → List Nat} {S : List Nat} {B B' : Nat → Prop} (h : ∀ v, B' v → B v) : ∀ {v : Nat}, Rch ways S B v → Rch ways S B' v
  | _, .base m n => .base m fun z => n (h _ z)
  | _, .step r m n => .step (r.mono h) m fun z => n (h _ z)
/-- a road from the ways of b need not come to b again -/
theorem Rch.again {ways : Nat → List Nat} {b : Nat} : ∀ {v : Nat}, Rch ways (ways b) (fun _ => False) v → Rch ways (ways b) (fun x => x = b) v ∨ v = b
  | v, .base m _ => by
    by_cases e : v = b
    · exact .inr e
    · exact .inl (.base m e)
  | v, .step (u := u) r m _ => by
    by_cases e : v = b
    · exact .inr e
    rcases r.again with h | h
    · exact .inl (.step h m e)
    · subst h
      exact .inl (.base m e)
section
variable {ways : Nat → List Nat} {S : List Nat} {C : List Nat} {E row : Nat}
end
/-! ### the search: what is found, what is left -/
structure Sk (ways : Nat → List Nat) (S bs fs ls : List Nat) : Prop where
  nd : fs.Nodup
  r : ∀ v ∈ fs, Rch ways S (fun x => x ∈ bs) v
  src : ∀ v ∈ ls, v ∈ S ∨ ∃ u, u ∈ fs ∧ v ∈ ways u
  cl : ∀ v, (v ∈ S ∨ ∃ u, u ∈ fs ∧ v ∈ ways u) → v ∈ fs ∨ v ∈ ls ∨ v ∈ bs
theorem Sk.start {ways : Nat → List Nat} {S bs : List Nat} : Sk ways S bs [] S :=
  ⟨List.nodup_nil, fun v h => (List.not_mem_nil h).elim, fun v h => .inl h, fun v h => h.elim (fun h => .inr (.inl h)) fun ⟨u, h, _⟩ => (List.not_mem_nil h).elim⟩
theorem Sk.drop {ways : Nat → List Nat} {S bs fs ls : List Nat} {v : Nat} (k : Sk ways S bs fs (ls ++ [v])) (h : v ∈ fs ∨ v ∈ bs) : Sk ways S bs fs ls := by
  refine ⟨k.nd, k.r, fun w hw => k.src w (List.mem_append_left _ hw), fun w hw => ?_⟩
  rcases k.cl w hw with a | a | a
  · exact .inl a
  · rcases List.mem_append.mp a with a | a
    · exact .inr (.inl a)
    · rw [List.mem_singleton.mp a]
      exact h.elim .inl fun z => .inr (.inr z)
  · exact .inr (.inr a)
theorem Sk.done {ways : Nat → List Nat} {S bs fs : List Nat} (k : Sk ways S bs fs []) : ∀ v, v ∈ fs ↔ Rch ways S (fun x => x ∈ bs) v := fun v => by
  refine ⟨k.r v, fun h => ?_⟩
  induction h with
  | base a n =>
    rcases k.cl _ (.inl a) with b | b | b
    · exact b
    · exact (List.not_mem_nil b).elim
    · exact (n b).elim
  | step a b n ih =>
    rcases k.cl _ (.inr ⟨_, ih, b⟩) with c | c | c
    · exact c
    · exact (List.not_mem_nil c).elim
    · exact (n c).elim
theorem Rch.le {ways : Nat → List Nat} {S : List Nat} {B : Nat → Prop} {n : Nat} (h1 : ∀ v ∈ S, v ≤ n) (h2 : ∀ i, ∀ v ∈ ways i, v ≤ n) : ∀ {v : Nat}, Rch ways S B v → v ≤ n
  | v, .base a _ => h1 v a
  | v, .step (u := u) _ b _ => h2 u v b
/-! ### the same search, what is barred left out when it is put -/
structure Sb (ways : Nat → List Nat) (S : List Nat) (B : Nat → Bool) (fs ls : List Nat) : Prop where
  nd : fs.Nodup
  r : ∀ v ∈ fs, Rch ways S (fun x => B x = true) v
  src : ∀ v ∈ ls, B v = false ∧ (v ∈ S ∨ ∃ u, u ∈ fs ∧ v ∈ ways u)
  cl : ∀ v, B v = false → (v ∈ S ∨ ∃ u, u ∈ fs ∧ v ∈ ways u) → v ∈ fs ∨ v ∈ ls
theorem Sb.start {ways : Nat → List Nat} {S : List Nat} {B : Nat → Bool} : Sb ways S B [] (S.filter fun v => !B v) := by
  refine ⟨List.nodup_nil, fun v h => (List.not_mem_nil h).elim, fun v h => ?_, fun v hb h => ?_⟩
  · obtain ⟨a, b⟩ := List.mem_filter.mp h
    exact ⟨by simpa using b, .inl a⟩
  · rcases h with h | ⟨u, h, _⟩
    · exact .inr (List.mem_filter.mpr ⟨h, by rw [hb]; rfl⟩)
    · exact (List.not_mem_nil h).elim
theorem Sb.drop {ways : Nat → List Nat} {S fs ls : List Nat} {B : Nat → Bool} {v : Nat} (k : Sb ways S B fs (ls ++ [v])) (h : v ∈ fs) : Sb ways S B fs ls := by
  refine ⟨k.nd, k.r, fun w hw => k.src w (List.mem_append_left _ hw), fun w hb hw => ?_⟩
  rcases k.cl w hb hw with a | a
  · exact .inl a
  · rcases List.mem_append.mp a with a | a
    · exact .inr a
    · rw [List.mem_singleton.mp a]
      exact .inl h
theorem Sb.done {ways : Nat → List Nat} {S fs : List Nat} {B : Nat → Bool} (k : Sb ways S B fs []) : ∀ v, v ∈ fs ↔ Rch ways S (fun x => B x = true) v := fun v => by
  refine ⟨k.r v, fun h => ?_⟩
  induction h with
  | base a n =>
    rcases k.cl _ (Bool.eq_false_iff.mpr n) (.inl a) with b | b
    · exact b
    · exact (List.not_mem_nil b).elim
  | step a b n ih =>
    rcases k.cl _ (Bool.eq_false_iff.mpr n) (.inr ⟨_, ih, b⟩) with c | c
    · exact c
    · exact (List.not_mem_nil c).elim
end XX

set_option maxRecDepth 100000
set_option maxHeartbeats 4000000
namespace PySem.SeqAt
/-! ### what is no number is in no range -/
end PySem.SeqAt
namespace XX
open PySem PySem.Spec PyProof.Rows L2
def inRg (lo hi : Int) : V → Bool
  | .int i => decide (lo ≤ i) && decide (i < hi)
  | _ => false
def noNum : V → Bool
  | .non => true
  | .str _ => true
  | .int _ => true
  | _ => false
/-- v in a range: a number, None, a text -/
def rInRg : R2 := fun x y H Q => ∃ a lo hi, noNum x = true ∧ y = V.ref a ∧ H a = some (.rng lo hi) ∧ Q (.bl (inRg lo hi x)) H
/-- range(n) as a value -/
def rRange1 : List V → Hp → VK → Prop := fun vs H Q => ∃ j, vs = [V.int j] ∧ ∀ p, H p = none → Q (.ref p) (upd H p (.rng 0 j))
end XX

namespace XX
/-! ### roads: walks that are kept -/
inductive Wk (ways : Nat → List Nat) (S : List Nat) : List Nat → Nat → Prop
  | one {v : Nat} : v ∈ S → Wk ways S [v] v
  | snoc {r : List Nat} {u v : Nat} : Wk ways S r u → v ∈ ways u → Wk ways S (r ++ [v]) v
section
variable {ways : Nat → List Nat} {S : List Nat}
theorem Wk.last {r : List Nat} {v : Nat} : Wk ways S r v → ∃ q, r = q ++ [v]
  | .one _ => ⟨[], rfl⟩
  | .snoc _ _ => ⟨_, rfl⟩
theorem Wk.ne {r : List Nat} {v : Nat} (h : Wk ways S r v) : r ≠ [] := by
  obtain ⟨q, rfl⟩ := h.last
  exact fun e => by simp at e
theorem Wk.rch {B : Nat → Prop} : ∀ {r : List Nat} {v : Nat}, Wk ways S r v → (∀ x ∈ r, ¬ B x) → Rch ways S B v
  | _, _, .one m, h => .base m (h _ (List.mem_singleton.mpr rfl))
  | _, _, .snoc w m, h => .step (w.rch fun x hx => h x (List.mem_append_left _ hx)) m (h _ (List.mem_append_right _ (List.mem_singleton.mpr rfl)))
theorem Wk.all {r : List Nat} {v : Nat} (h : Wk ways S r v) : Rch ways S (fun _ => False) v := h.rch fun _ _ z => z
/-- the part of a road up to one of its places is a road -/
theorem Wk.part : ∀ {r : List Nat} {v : Nat}, Wk ways S r v → ∀ {j o : Nat}, r[j]? = some o → Wk ways S (r.take (j + 1)) o
  | _, v, .one m, j, o, h => by
    have hj := (List.getElem?_eq_some_iff.mp h).1
    rw [List.length_singleton] at hj
    have e : j = 0 := by omega
    subst e
    cases h
    exact .one m
  | _, v, .snoc (r := r) w m, j, o, h => by
    by_cases hj : j < r.length
    · rw [List.getElem?_append_left hj] at h
      rw [List.take_append_of_le_length (by omega)]
      exact w.part h
    · have h2 := (List.getElem?_eq_some_iff.mp h).1
      rw [List.length_append, List.length_singleton] at h2
      have e : j = r.length := by omega
      subst e
      rw [List.getElem?_append_right (Nat.le_refl _), Nat.sub_self] at h
      cases h
      rw [List.take_of_length_le (by rw [List.length_append, List.length_singleton]; omega)]
      exact .snoc w m
/-- what no way around leads to the end is on every road to the end -/
theorem Wk.mem {r : List Nat} {E c : Nat} (h : Wk ways S r E) (hc : ¬ Rch ways S (fun x => x = c) E) : c ∈ r := by
  by_cases e : c ∈ r
  · exact e
  · exact absurd (h.rch (B := fun x => x = c) fun x hx z => e (z ▸ hx)) hc
/-- on the way to the end one of the common rows is the first that is come to -/
theorem Rch.meet {C : List Nat} : ∀ {v : Nat}, Rch ways S (fun _ => False) v → Rch ways S (fun x => x ∈ C) v ∨ ∃ r, r ∈ C ∧ Rch ways S (fun x => x ∈ C ∧ x ≠ r) r
  | v, .base m _ => by
    by_cases e : v ∈ C
    · exact .inr ⟨v, e, .base m fun z => z.2 rfl⟩
    · exact .inl (.base m e)
  | v, .step r m _ => by
    rcases Rch.meet (C := C) r with h | h
    · by_cases e : v ∈ C
      · exact .inr ⟨v, e, .step (h.mono fun x z => z.1) m fun z => z.2 rfl⟩
      · exact .inl (.step h m e)
    · exact .inr h
end
end XX

namespace XX
theorem Sb.eqv {ways : Nat → List Nat} {S fs ls ls' : List Nat} {B : Nat → Bool} (h : ∀ v, v ∈ ls ↔ v ∈ ls') (k : Sb ways S B fs ls) : Sb ways S B fs ls' :=
  ⟨k.nd, k.r, fun v hv => k.src v ((h v).mpr hv), fun v hb hv => (k.cl v hb hv).imp id fun z => (h v).mp z⟩
theorem Sb.here {ways : Nat → List Nat} {S fs ls : List Nat} {B : Nat → Bool} {v : Nat} (k : Sb ways S B fs ls) (h : v ∈ ls) : Rch ways S (fun x => B x = true) v := by
  obtain ⟨hb, hs⟩ := k.src v h
  have hn : ¬ B v = true := by
    rw [hb]
    exact Bool.false_ne_true
  rcases hs with a | ⟨u, a, b⟩
  · exact .base a hn
  · exact .step (k.r u a) b hn
end XX


set_option maxRecDepth 100000
set_option maxHeartbeats 4000000
namespace YY
open PySem PySem.Spec PyProof.Rows L2 XX
local macro_rules | `(tactic| walk_at "wp") => `(tactic| simp only [Int.zero_add, L2.start, LcEnd, List.append_nil, List.cons.injEq, List.cons_append, List.getElem?_cons_succ, List.getElem?_cons_zero, List.length_cons, List.length_nil, List.map_cons, List.map_nil, List.nil_append, List.replicate, List.replicate_succ, List.replicate_zero, List.set_cons_succ, List.set_cons_zero, Nat.reduceAdd, Nat.reduceSub, Option.some.injEq, StX.tMakeR, StX.tStar, V.bl.injEq, V.int.injEq, V.ref.injEq, V.str.injEq, V.ty.injEq, WE, and_assoc, and_false, and_true, bool_ite_false, bool_ite_true, cxOf_K, cxOf_noxK, dec_ite, decide_eq_true_eq, exists_and_left, exists_and_right, exists_const, exists_eq_left, exists_eq_left', false_and, false_or, gCons, gName, gNil, gSub, gTup, iEnumA, iItems, iKeys, iList, iRng1, iRng2, iStr, iTup, iZipB, ite_false, ite_true, ndec_ite, or_false, rAppend, rCat, rCatT, rEq, rEqI, rEqK, rEqV, rExt2, rI, rI0, rIn, rInRg, rIndex, rIsD, rIsE, rIsE2, rIxD, rIxL, rIxS, rIxT, rLenI, rLenK, rListStr, rMax, rMaxDef, rSetIM, rEqT, sFldAug, rAdd, rMin, rMulS, rNe, rNeDA, rNeV, rRange1, rRep, rRepA, rReprE, rReprI, rSetD, rSetI, rSetL, rSlL, rSlT, rSortedSet, rU, reduceCtorEq, reduceIte, sFld, tAnd, tAndV, tAsg, tAug, tB, tBM, tBM0, tC, tCB, tCKw, tDGetT, tCall, tCallS, tChain, tCons, tDGet, tDIn, tDNewK, tDNotIn, tDcT_eq, tDc_eq, tDisp, tDrop, tErr, tFld, tFor_eq, tIf, tIfS, tIxI, tLc2_eq, tLc_eq, tLenSetS, tLock, tLockE, tLst, tLstRg, tM1, tMakeRS, tMakeS, tMakeV, tMakeVS, tMeth, tMethX, tMkO, tMulA, tMulD, tNext, tNil, tNoPart, tNot, tNotV, tOp, tOpI, tOpR, tOr, tOrV, tOst, tPairs, tPar, tPar3, tPart, tRet, tRetN, tRevT, tRg2, tSMeth, tSeq, tSl, tTest, tTup, tUn, tVar, tVeI, tXf, tYes, true_and, wAs, wMA, wipe, rSum])
/-! ### blocks of statements: what they are -/
abbrev sIsBlock : Stmt := topS 16
abbrev sCountB : Stmt := topS 17
abbrev sCountS : Stmt := topS 18
abbrev sPlainRow : Stmt := topS 19
def plainS : List Str := ["set", "copy", "take", "meet", "any", "all", "same"]
def partsT : List (Str × Int) := [("if", 5), ("while", 4)]
def ownT : List (Str × Int) := [("if", 2), ("while", 3)]
def tabOf (t : List (Str × Int)) (z : Str) : Option Int := (t.find? fun e => e.1 == z).map Prod.snd
/-- a dict of numbers of the text -/
structure TabOk (K : PySem.W.Frag) (w : World) (mg : Str → Option Value) (name : Str) (tab : List (Str × Int)) (fo : Addr) (es : Array DictEntry) (n : Nat) : Prop where
  g : mg name = some (.ref fo)
  kd : KDict K w fo es n
  yes : ∀ z i, tabOf tab z = some i → ∃ tk, PySem.W.nsIn K fo z = some (some (.int i tk))
  no : ∀ z, tabOf tab z = none → PySem.W.nsIn K fo z = some none
theorem cut_hide {t1 t2 : TS} {D : Ends} {σ : L2.St} {H : Hp} (M : L2.St → Hp → Prop) (h1 : ∀ M' : L2.St → Hp → Prop, (∀ τ G, M τ G → M' τ G) → t1 { D with nx := M' } σ H) (h2 : ∀ τ G, M τ G → t2 D τ G) : tCut t1 t2 D σ H := ⟨M, h1 M fun _ _ h => h, h2⟩
/-- a row without places of rows -/
def rowZ (rs : List Str) (size : Int) (d : PyData) : Bool := rowB rs size 0 d
/-- None, or a number -/
def optN : Option Nat → V
  | none => .non
  | some n => .int (n : Nat)
def sumO : List (Option Nat) → Option Nat
  | [] => some 0
  | none :: _ => none
  | some a :: r => (sumO r).map (a + ·)
def addO (o : Option Nat) (r : Option Nat) : Option Nat := match o, r with
  | some m, some k => if 24 < m + k then none else some (m + k)
  | _, _ => none
def cntBl (f : PyData → Option Nat) : PyData → Option Nat
  | .tuple ds => ds.foldl (fun o d => addO o (f d)) (some 0)
  | _ => none
/-- the rows that an if or a while becomes -/
def cntIn (cb : Option (Bool → PyData → Option Nat)) (z : Str) (r : List PyData) : Option Nat := match tabOf partsT z, cb with
  | some k, some f => if (r.length : Int) + 3 = k then (sumO (r.map (f (decide (z = "while"))))).map (((tabOf ownT z).getD 0).toNat + ·) else none
  | _, _ => none
def cntTwo (rs : List Str) (size : Int) (cb : Option (Bool → PyData → Option Nat)) (inl : Bool) (w : Str) : List PyData → Option Nat
  | a :: b :: r => if rowZ rs size (.tuple [.str "set", a, b]) = true then (if w = "leave" then (if r = [] ∧ inl = true then some 1 else none) else cntIn cb w r) else none
  | _ => none
def cntSw (rs : List Str) (size : Int) (cb : Option (Bool → PyData → Option Nat)) (inl : Bool) (w : Str) (ps : List PyData) : Option Nat :=
  if w ∈ plainS then (if rowZ rs size (.tuple (.str w :: ps)) = true then some 1 else none)
  else if w = "group" then (if ps.length = 1 ∧ wordB (ps.headD .none) = true then some 1 else none)
  else cntTwo rs size cb inl w ps
/-- the rows that a statement becomes, if it is one -/
def cntSt (rs : List Str) (size : Int) (cb : Option (Bool → PyData → Option Nat)) (inl : Bool) : PyData → Option Nat
  | .tuple (.str w :: ps) => cntSw rs size cb inl w ps
  | _ => none
def cntB (rs : List Str) (size : Int) : Nat → Bool → PyData → Option Nat
  | 0, inl => cntBl (cntSt rs size none inl)
  | l + 1, inl => cntBl (cntSt rs size (some (cntB rs size l)) inl)
def cbOf (rs : List Str) (size : Int) : Nat → Option (Bool → PyData → Option Nat)
  | 0 => none
  | l + 1 => some (cntB rs size l)
theorem cntB_eq (rs : List Str) (size : Int) (l : Nat) (inl : Bool) : cntB rs size l inl = cntBl (cntSt rs size (cbOf rs size l) inl) := by
  cases l <;> rfl
theorem sumO_some : ∀ {os : List (Option Nat)} {s : Nat}, sumO os = some s → ∃ ns : List Nat, os = ns.map some ∧ s = ns.sum
  | [], s, h => by
    cases h
    exact ⟨[], rfl, rfl⟩
  | none :: _, _, h => nomatch h
  | some a :: r, s, h => by
    obtain ⟨t, ht, rfl⟩ := Option.map_eq_some_iff.1 (show (sumO r).map (a + ·) = some s from h)
    obtain ⟨ns, rfl, rfl⟩ := sumO_some ht
    exact ⟨a :: ns, rfl, rfl⟩
theorem sumO_none : ∀ {os : List (Option Nat)}, sumO os = none → none ∈ os
  | [], h => nomatch h
  | none :: _, _ => List.mem_cons_self
  | some a :: r, h => by
    refine List.mem_cons_of_mem _ (sumO_none ?_)
    have h' : (sumO r).map (a + ·) = none := h
    exact Option.map_eq_none_iff.1 h'
theorem inV_optN (os : List (Option Nat)) : inV .non (os.map optN) = (sumO os).isNone := by
  cases e : sumO os with
  | none =>
    have hm := sumO_none e
    unfold inV
    refine (List.any_eq_true.2 ⟨.non, List.mem_map.2 ⟨none, hm, rfl⟩, rfl⟩)
  | some s =>
    obtain ⟨ns, rfl, rfl⟩ := sumO_some e
    unfold inV
    refine List.any_eq_false.2 fun v hv => ?_
    obtain ⟨o, ho, rfl⟩ := List.mem_map.1 hv
    obtain ⟨n, _, rfl⟩ := List.mem_map.1 ho
    exact Bool.false_ne_true
theorem flat_optN (os : List (Option Nat)) : (os.map optN).all flatV = true := List.all_eq_true.2 fun v hv => by
  obtain ⟨o, _, rfl⟩ := List.mem_map.1 hv
  cases o <;> rfl
theorem sum_cast : ∀ ns : List Nat, (ns.map fun n => ((n : Nat) : Int)).sum = ((ns.sum : Nat) : Int)
  | [] => rfl
  | n :: ns => by
    rw [List.map_cons, List.sum_cons, sum_cast ns, List.sum_cons]
    omega
theorem parts_cases {z : Str} {k : Int} (h : tabOf partsT z = some k) : (z = "if" ∧ k = 5) ∨ (z = "while" ∧ k = 4) := by
  by_cases c0 : z = "if"
  · subst c0
    cases (show some (5 : Int) = some k from h)
    exact .inl ⟨rfl, rfl⟩
  by_cases c1 : z = "while"
  · subst c1
    cases (show some (4 : Int) = some k from h)
    exact .inr ⟨rfl, rfl⟩
  have e : tabOf partsT z = none := by
    unfold tabOf partsT
    rw [List.find?_cons_of_neg (by simpa using fun e => c0 e.symm), List.find?_cons_of_neg (by simpa using fun e => c1 e.symm)]
    rfl
  rw [e] at h
  cases h
theorem cut_three (x a b : V) (r : List V) : cutV (x :: a :: b :: r) (some 3) none = r := by
  have e1 : HT.sIx (x :: a :: b :: r).length 0 (some 3) = 3 := by
    show (if (3 : Int) < 0 then ((3 : Int) + ((x :: a :: b :: r).length : Int)).toNat else min (3 : Int).toNat (x :: a :: b :: r).length) = 3
    rw [if_neg (by decide)]
    simp only [List.length_cons]
    omega
  have e2 : HT.sIx (x :: a :: b :: r).length (x :: a :: b :: r).length none = (x :: a :: b :: r).length := rfl
  unfold cutV
  rw [e1, e2]
  simp
theorem no_str {d : PyData} (h : ∀ z, d ≠ .str z) : (!isTy (tyOf d) "str") = true := by
  rw [isTy_str]
  cases d with
  | str z => exact absurd rfl (h z)
  | _ => rfl
theorem no_tup {d : PyData} (h : ∀ ds, d ≠ .tuple ds) : (!isTy (tyOf d) "tuple") = true := by
  rw [isTy_tuple]
  cases d with
  | tuple z => exact absurd rfl (h z)
  | _ => rfl
theorem sms_cons {d : PyData} {ds : List PyData} (h : sms (d :: ds) = true) : sm d = true ∧ sms ds = true := by
  rw [sms, Bool.and_eq_true] at h
  exact h
section
variable {rs : List Str} {size : Int} {cb : Option (Bool → PyData → Option Nat)} {inl : Bool} {z : Str} {p1 p2 : PyData} {ps r : List PyData}
theorem cs_plain (h : z ∈ plainS) : cntSt rs size cb inl (.tuple (.str z :: ps)) = if rowZ rs size (.tuple (.str z :: ps)) = true then some 1 else none := by
  show cntSw rs size cb inl z ps = _
  unfold cntSw
  rw [if_pos h]
theorem cs_group (h : z ∉ plainS) (h2 : z = "group") : cntSt rs size cb inl (.tuple (.str z :: ps)) = if ps.length = 1 ∧ wordB (ps.headD .none) = true then some 1 else none := by
  show cntSw rs size cb inl z ps = _
  unfold cntSw
  rw [if_neg h, if_pos h2]
theorem cs_two (h : z ∉ plainS) (h2 : z ≠ "group") : cntSt rs size cb inl (.tuple (.str z :: ps)) = cntTwo rs size cb inl z ps := by
  show cntSw rs size cb inl z ps = _
  unfold cntSw
  rw [if_neg h, if_neg h2]
theorem cs_few (h : z ∉ plainS) (h2 : z ≠ "group") (h3 : ps.length < 2) : cntSt rs size cb inl (.tuple (.str z :: ps)) = none := by
  rw [cs_two h h2]
  match ps, h3 with
  | [], _ => rfl
  | [_], _ => rfl
  | _ :: _ :: _, h3 => exact absurd h3 (by simp only [List.length_cons]; omega)
theorem cs_bad (h : z ∉ plainS) (h2 : z ≠ "group") (h3 : rowZ rs size (.tuple [.str "set", p1, p2]) = false) : cntSt rs size cb inl (.tuple (.str z :: p1 :: p2 :: r)) = none := by
  rw [cs_two h h2]
  show (if rowZ rs size (.tuple [.str "set", p1, p2]) = true then _ else none) = none
  rw [if_neg (by rw [h3]; exact Bool.false_ne_true)]
theorem cs_leave (h : z ∉ plainS) (h2 : z ≠ "group") (h3 : rowZ rs size (.tuple [.str "set", p1, p2]) = true) (h4 : z = "leave") : cntSt rs size cb inl (.tuple (.str z :: p1 :: p2 :: r)) = if r = [] ∧ inl = true then some 1 else none := by
  rw [cs_two h h2]
  show (if rowZ rs size (.tuple [.str "set", p1, p2]) = true then _ else none) = _
  rw [if_pos h3, if_pos h4]
theorem cs_in (h : z ∉ plainS) (h2 : z ≠ "group") (h3 : rowZ rs size (.tuple [.str "set", p1, p2]) = true) (h4 : z ≠ "leave") : cntSt rs size cb inl (.tuple (.str z :: p1 :: p2 :: r)) = cntIn cb z r := by
  rw [cs_two h h2]
  show (if rowZ rs size (.tuple [.str "set", p1, p2]) = true then _ else none) = _
  rw [if_pos h3, if_neg h4]
end
def FormAt (K : PySem.W.Frag) (H : Hp) (fa : Addr) (rs : List Str) (size : Int) : Prop := ∃ ra, SqT K H fa [.ref ra, .int size] ∧ SqT K H ra (rs.map V.str)
theorem FormAt.same {K : PySem.W.Frag} {H G : Hp} {fa : Addr} {rs : List Str} {size : Int} (s : Same H G) (h : FormAt K H fa rs size) : FormAt K G fa rs size := by
  obtain ⟨ra, h1, h2⟩ := h
  exact ⟨ra, Same.sqT s h1, Same.sqT s h2⟩
section
variable {P : Program} {w : World} {K : PySem.W.Frag} {mg : Str → Option Value} {base : Heap}
/-! ### _is_plain_row -/
def spPlainRow (K : PySem.W.Frag) : Sp := fun vs H Q _ => ∃ (x : V) (d : PyData) (fa : Addr) (rs : List Str) (size : Int), vs = [x, .ref fa] ∧ Dp K H x d ∧ sm d = true ∧ FormAt K H fa rs size ∧ ∀ G, Same H G → Q (.bl (rowZ rs size d)) G
theorem scPlainRow : FnScope ["value", "form"] ["value", "form"] (defScope sPlainRow) := ⟨rfl, rfl, rfl, by decide +kernel, rfl, by decide +kernel, by decide +kernel⟩
theorem c_plainRow (D : Def K mg "_is_plain_row" sPlainRow ["value", "form"]) (cR : FnC P w K mg base CX0 4 "is_row" ["row", "registers", "size", "end"] (spIsRow K)) : FnC P w K mg base CX0 5 "_is_plain_row" ["value", "form"] (spPlainRow K) := by
  refine D.ok scPlainRow (fun vs H Q E h => ?_) (fun f cdv A outer s H vs Q E hr h => ?_)
  · obtain ⟨x, d, fa, rs, size, rfl, _⟩ := h
    rfl
  · obtain ⟨x, d, fa, rs, size, rfl, hx, hl, ⟨ra, h1, h2⟩, k⟩ := h
    have sc := scPlainRow
    refine ⟨_, (pss_one (ps_ret (pe_c cR hr rfl (pa_cons (pv 0) (pa_cons (pe_ix ix_tup (pv 1) pe_int (fun _ _ => rfl)) (pa_cons (pe_ix ix_tup (pv 1) pe_int (fun _ _ => rfl)) (pa_cons pe_int pa_nil))))))), ?_⟩
    walk_at "wp"
    exact ⟨_, h1, _, at_of (j := 0) rfl rfl, _, h1, _, at_of (j := 1) rfl rfl, x, d, ra, rs, size, 0, rfl, hx, hl, h2, k⟩
/-! ### _count_statement -/
def spCS (K : PySem.W.Frag) (l : Nat) : Sp := fun vs H Q _ => ∃ (x : V) (d : PyData) (fa : Addr) (rs : List Str) (size : Int) (inl : Bool), vs = [x, .ref fa, .int (l : Nat), .bl inl] ∧ Dp K H x d ∧ sm d = true ∧ FormAt K H fa rs size ∧ ∀ G, Same H G → Q (optN (cntSt rs size (cbOf rs size l) inl d)) G
/-- _count_block below l, if any is asked -/
def spCB (K : PySem.W.Frag) : Nat → Sp
  | 0 => fun _ _ _ _ => False
  | l + 1 => fun vs H Q _ => ∃ (x : V) (d : PyData) (fa : Addr) (rs : List Str) (size : Int) (inl : Bool), vs = [x, .ref fa, .int (l : Nat), .bl inl] ∧ Dp K H x d ∧ sm d = true ∧ FormAt K H fa rs size ∧ ∀ G, Same H G → Q (optN (cntB rs size l inl d)) G
theorem scCS : FnScope ["value", "form", "levels", "in_loop", "word", "counts", "block"] ["value", "form", "levels", "in_loop"] (defScope sCountS) := ⟨rfl, rfl, rfl, by decide +kernel, rfl, by decide +kernel, by decide +kernel⟩
theorem c_countS {l k : Nat} {pl pa oa : Addr} {es es2 : Array DictEntry} {n n2 : Nat} (D : Def K mg "_count_statement" sCountS ["value", "form", "levels", "in_loop"]) (T : Bl2 mg) (n_sum : mg "sum" = none) (gP : mg "PLAIN" = some (.ref pl)) (tP : ∀ H, SqT K H pl (plainS.map V.str)) (PT : TabOk K w mg "PARTS" partsT pa es n) (OT : TabOk K w mg "OWN_ROWS" ownT oa es2 n2)
    (hk : 5 ≤ k) (cW : FnC P w K mg base CX0 1 "is_word" ["value"] (spIsWord K)) (cR : FnC P w K mg base CX0 5 "_is_plain_row" ["value", "form"] (spPlainRow K)) (cB : FnC P w K mg base CX0 k "_count_block" ["value", "form", "levels", "in_loop"] (spCB K l)) : FnC P w K mg base CX0 (k + 1) "_count_statement" ["value", "form", "levels", "in_loop"] (spCS K l) := by
  refine D.ok scCS (fun vs H Q E h => ?_) (fun f cdv A outer s H vs Q E hr h => ?_)
  · obtain ⟨x, d, fa, rs, size, inl, rfl, _⟩ := h
    rfl
  · obtain ⟨x, d, fa, rs, size, inl, rfl, hx, hl, hf, q⟩ := h
    have sc := scCS
    have hr5 : Room 5 _ := hr.mono hk
    have hr1 : Room 1 _ := hr5.mono (by decide)
    refine ⟨_, (pss_cut (ps_if (PW.pt (pw_or (pt_not (pt_val (pe_callB (call_isD ty_tuple) (by rfl) T.n_isinstance (by decide +kernel) (pa_cons (pv 0) (pa_cons (pe_ty "tuple" (by rfl) T.n_tuple) pa_nil))))) (pw_or (pt_cmpR op_eq (pe_callB call_len_seq (by rfl) T.n_len (by decide +kernel) (pa_cons (pv 0) pa_nil)) pe_int (nomark _)) (pw_or1 (pt_not (pt_val (pe_callB (call_isD ty_str) (by rfl) T.n_isinstance (by decide +kernel) (pa_cons (pe_ix ix_tup (pv 0) pe_int (fun _ _ => rfl)) (pa_cons (pe_ty "str" (by rfl) T.n_str) pa_nil))))))))) (pss_one (ps_ret pe_non)) pss_nil)
      (pss_cut (ps_set (i := 4) sc.nd rfl (Or.inr rfl) (pe_ix ix_tup (pv 0) pe_int (fun _ _ => rfl)))
      (pss_cut (ps_if (pt_cmpR op_in_seq (pv 4) (pe_glob (v := .ref pl) (by rfl) gP rfl) (by rfl)) (pss_one (ps_ret (pe_ifExp (pt_val (pe_c cR hr5 rfl (pa_cons (pv 0) (pa_cons (pv 1) pa_nil)))) pe_int pe_non))) pss_nil)
      (pss_cut (ps_if (pt_cmpR op_eq (pv 4) pe_str (nomark _)) (pss_one (ps_ret (pe_ifExp (PW.pt (pw_and (pt_cmpR op_eq (pe_callB call_len_seq (by rfl) T.n_len (by decide +kernel) (pa_cons (pv 0) pa_nil)) pe_int (nomark _)) (pw_and1 (pt_val (pe_c cW hr1 rfl (pa_cons (pe_ix ix_tup (pv 0) pe_int (fun _ _ => rfl)) pa_nil)))))) pe_int pe_non))) pss_nil)
      (pss_cut (ps_if (PW.pt (pw_or (pt_cmpR op_lt (pe_callB call_len_seq (by rfl) T.n_len (by decide +kernel) (pa_cons (pv 0) pa_nil)) pe_int (nomark _)) (pw_or1 (pt_not (pt_val (pe_c cR hr5 rfl (pa_cons (pe_tup (pa_cons pe_str (pa_cons (pe_ix ix_tup (pv 0) pe_int (fun _ _ => rfl)) (pa_cons (pe_ix ix_tup (pv 0) pe_int (fun _ _ => rfl)) pa_nil)))) (pa_cons (pv 1) pa_nil)))))))) (pss_one (ps_ret pe_non)) pss_nil)
      (pss_cut (ps_if (pt_cmpR op_eq (pv 4) pe_str (nomark _)) (pss_one (ps_ret (pe_ifExp (PW.pt (pw_and (pt_cmpR op_eq (pe_callB call_len_seq (by rfl) T.n_len (by decide +kernel) (pa_cons (pv 0) pa_nil)) pe_int (nomark _)) (pw_and1 (pt_val (pv 3))))) pe_int pe_non))) pss_nil)
      (pss_cut (ps_if (PW.pt (pw_or (pt_cmpR (op_notIn_kd PT.kd) (pv 4) (pe_glob (v := .ref pa) rfl PT.g rfl) (by rfl)) (pw_or (pt_cmpR op_ne (pe_callB call_len_seq (by rfl) T.n_len (by decide +kernel) (pa_cons (pv 0) pa_nil)) (pe_ix ix_kdict (pe_glob (v := .ref pa) rfl PT.g rfl) (pv 4) (fun _ _ => rfl)) (nomark _)) (pw_or1 (pt_cmpR op_eq (pv 2) pe_int (nomark _)))))) (pss_one (ps_ret pe_non)) pss_nil)
      (pss_cut (ps_setLc (i := 5) (own := [("block", 6)]) (g := gName 6) (tt := tYes) rfl sc.nd rfl rfl (sw_true rfl rfl rfl (by decide +kernel)) (pi_tup (pe_slice sl_tupA (pv 0) (po_some pe_int) po_none)) (blkOk_by (N := ["value", "form", "levels", "in_loop", "word", "counts", "block"]) (sc := defScope sCountS) (by decide +kernel)) (fun _ _ _ _ _ => (pg_name (i := 6) sc.nd rfl (Or.inl rfl))) (fun _ _ _ _ _ => pts_nil) (fun _ _ _ _ _ => (pe_c cB hr rfl (pa_cons (pv 6) (pa_cons (pv 1) (pa_cons (pe_op op_sub (pv 2) pe_int) (pa_cons (pe_cmpR op_eq (pv 4) pe_str (nomark _)) pa_nil)))))))
      (pss_one (ps_ret (pe_ifExp (pt_cmpR op_in_seq pe_non (pv 5) (by rfl)) pe_non (pe_op op_add (pe_ix ix_kdict (pe_glob (v := .ref oa) rfl OT.g rfl) (pv 4) (fun _ _ => rfl)) (pe_callB (cr_sum rfl) (by rfl) n_sum (by decide +kernel) (pa_cons (pv 5) pa_nil)))))))))))))), ?_⟩
    have hz := sizeLine_eq
    refine cut_hide (fun τ G => τ = [some x, some (.ref fa), some (.int (l : Nat)), some (.bl inl), none, none, none] ∧ G = H ∧ ∃ a z ps vs, x = .ref a ∧ d = .tuple (.str z :: ps) ∧ SqT K H a (.str z :: vs) ∧ DpAll K H vs ps) (fun M' hM => ?_) ?_
    · walk_at "wp"
      refine ⟨d, hx, ?_⟩
      have q0 : cntSt rs size (cbOf rs size l) inl d = none → Q .non H := fun e => by
        have := q _ (Same.refl _)
        rw [e] at this
        exact this
      cases hx with
      | @tup a xs ds hs ha =>
        rw [if_neg (show ¬ (!isTy (tyOf (PyData.tuple ds)) "tuple") = true by rw [isTy_tuple]; exact Bool.false_ne_true)]
        cases ha with
        | nil =>
          refine ⟨a, rfl, _, .inr hs, rfl, ?_⟩
          rw [if_pos (by rfl)]
          exact q0 rfl
        | @cons v vs e ps h1 h2 =>
          refine ⟨a, rfl, _, .inr hs, rfl, ?_⟩
          rw [if_neg (by rw [List.length_cons]; omega)]
          refine ⟨a, rfl, _, hs, v, at_of (j := 0) rfl rfl, e, h1, ?_⟩
          cases h1 with
          | str z =>
            rw [if_neg (show ¬ (!isTy (tyOf (PyData.str z)) "str") = true by rw [isTy_str]; exact Bool.false_ne_true)]
            exact hM _ _ ⟨rfl, rfl, a, z, ps, vs, rfl, rfl, hs, h2⟩
          | _ => exact Eq.mpr (if_pos (no_str (by intro _ z; cases z))) (q0 rfl)
      | _ => exact Eq.mpr (if_pos (no_tup (by intro _ z; cases z))) (q0 rfl)
    rintro τ G ⟨rfl, rfl, a, z, ps, vs, rfl, rfl, hs, hps⟩
    obtain ⟨sm0, sm1⟩ := sm_tup hl
    have lv := dpAll_len hps
    obtain ⟨_, smp⟩ := sms_cons sm1
    have qn : ∀ {o : Option Nat} {F : Hp}, cntSt rs size (cbOf rs size l) inl (.tuple (.str z :: ps)) = o → Same G F → Q (optN o) F := fun {o F} e s => by
      rw [← e]
      exact q F s
    refine cut_hide (fun τ G' => τ = [some (.ref a), some (.ref fa), some (.int (l : Nat)), some (.bl inl), some (.str z), none, none] ∧ G' = G) (fun M' hM => ?_) ?_
    · walk_at "wp"
      exact ⟨_, hs, _, at_of (j := 0) rfl rfl, hM _ _ ⟨rfl, rfl⟩⟩
    rintro τ G' ⟨rfl, rfl⟩
    refine cut_hide (fun τ F => τ = [some (.ref a), some (.ref fa), some (.int (l : Nat)), some (.bl inl), some (.str z), none, none] ∧ F = G' ∧ z ∉ plainS) (fun M' hM => ?_) ?_
    · walk_at "wp"
      refine ⟨_, .inr (tP _), rfl, ?_, ?_⟩
      · rw [List.all_map]
        exact List.all_eq_true.mpr fun _ _ => rfl
      rw [inV_strs]
      refine ite2 (fun c => ?_) fun c => hM _ _ ⟨rfl, rfl, fun h => c (decide_eq_true h)⟩
      have hm : z ∈ plainS := of_decide_eq_true c
      refine ⟨_, .tuple (.str z :: ps), fa, rs, size, rfl, .tup hs (.cons (.str z) hps), hl, hf, fun F s => ⟨_, rfl, ?_⟩⟩
      have e := cs_plain (rs := rs) (size := size) (cb := cbOf rs size l) (inl := inl) (ps := ps) hm
      have e2 := qn e s
      refine ite2 (fun c2 => ?_) fun c2 => ?_
      · rw [if_pos c2] at e2
        exact e2
      · rw [if_neg c2] at e2
        exact e2
    rintro τ G ⟨rfl, rfl, hnp⟩
    refine cut_hide (fun τ F => τ = [some (.ref a), some (.ref fa), some (.int (l : Nat)), some (.bl inl), some (.str z), none, none] ∧ F = G ∧ z ≠ "group") (fun M' hM => ?_) ?_
    · walk_at "wp"
      refine ⟨rfl, ite2 (fun c => ?_) fun c => hM _ _ ⟨rfl, rfl, c⟩⟩
      have e := cs_group (rs := rs) (size := size) (cb := cbOf rs size l) (inl := inl) (ps := ps) hnp c
      refine ⟨_, .inr hs, rfl, ite2 (fun c1 => ?_) fun c1 => ?_⟩
      · have l1 : ps.length = 1 := by
          rw [List.length_cons] at c1
          omega
        cases hps with
        | nil => cases l1
        | @cons v1 vr p1 r h1 h2 =>
          cases h2 with
          | cons _ _ => cases l1
          | nil =>
            refine ⟨_, hs, _, at_of (j := 1) rfl rfl, v1, p1, rfl, h1, (sms_cons smp).1, fun F s => ⟨_, rfl, ?_⟩⟩
            have e2 := qn e s
            refine ite2 (fun c2 => ?_) fun c2 => ?_
            · rw [if_pos ⟨rfl, c2⟩] at e2
              exact e2
            · rw [if_neg (fun h => c2 h.2)] at e2
              exact e2
      · have e2 := qn e (Same.refl _)
        rw [if_neg (fun h => c1 (by rw [List.length_cons, lv, h.1]; rfl))] at e2
        exact e2
    rintro τ G' ⟨rfl, rfl, hng⟩
    refine cut_hide (fun τ F => τ = [some (.ref a), some (.ref fa), some (.int (l : Nat)), some (.bl inl), some (.str z), none, none] ∧ Same G' F ∧ ∃ p1 p2 r v1 v2 vr, ps = p1 :: p2 :: r ∧ vs = v1 :: v2 :: vr ∧ rowZ rs size (.tuple [.str "set", p1, p2]) = true) (fun M' hM => ?_) ?_
    · walk_at "wp"
      refine ⟨_, .inr hs, ite2 (fun c => ?_) fun c => ?_⟩
      · exact qn (cs_few hnp hng (by rw [List.length_cons] at c; omega)) (Same.refl _)
      · rw [List.length_cons] at c
        cases hps with
        | nil => exact absurd (by decide) c
        | @cons v1 vr1 p1 r1 h1 h2 =>
          cases h2 with
          | nil => exact absurd (show (((1 + 1 : Nat) : Int) < 3) by decide) c
          | @cons v2 vr p2 r h2 h3 =>
            refine ⟨_, hs, _, at_of (j := 1) rfl rfl, _, hs, _, at_of (j := 2) rfl rfl, by omega, fun p np => ?_⟩
            have sp := same_new (o := .tup [V.str "set", v1, v2]) np
            obtain ⟨m1, mr⟩ := sms_cons smp
            obtain ⟨m2, _⟩ := sms_cons mr
            refine ⟨_, .tuple [.str "set", p1, p2], fa, rs, size, rfl, .tup (SqT.of upd_same) (.cons (.str _) (.cons (dp_same sp _ _ h1) (.cons (dp_same sp _ _ h2) .nil))), ?_, hf.same sp, fun F s => ⟨_, rfl, ite2 (fun c2 => ?_) fun c2 => ?_⟩⟩
            · show (decide (3 ≤ 1000) && sms [.str "set", p1, p2]) = true
              rw [decide_eq_true (by decide), sms, sms, sms, m1, m2]
              decide +kernel
            · have e3 : rowZ rs size (.tuple [.str "set", p1, p2]) = false := by simpa using c2
              exact qn (cs_bad hnp hng e3) (sp.trans s)
            · have e3 : rowZ rs size (.tuple [.str "set", p1, p2]) = true := by simpa using c2
              exact hM _ _ ⟨rfl, sp.trans s, p1, p2, r, v1, v2, vr, rfl, rfl, e3⟩
    rintro τ F ⟨rfl, sF, p1, p2, r, v1, v2, vr, rfl, rfl, hset⟩
    have hsF := Same.sqT sF hs
    have hpF := dps_same sF _ _ hps
    have hfF := hf.same sF
    refine cut_hide (fun τ F' => τ = [some (.ref a), some (.ref fa), some (.int (l : Nat)), some (.bl inl), some (.str z), none, none] ∧ F' = F ∧ z ≠ "leave") (fun M' hM => ?_) ?_
    · walk_at "wp"
      refine ⟨rfl, ite2 (fun c => ?_) fun c => hM _ _ ⟨rfl, rfl, c⟩⟩
      have e := cs_leave (cb := cbOf rs size l) (inl := inl) (r := r) hnp hng hset c
      refine ⟨_, .inr hsF, rfl, ite2 (fun c1 => ?_) fun c1 => ?_⟩
      · have lr : r = [] := by
          simp only [List.length_cons] at c1 lv
          exact List.length_eq_zero_iff.1 (by omega)
        have e2 := qn e sF
        refine ite2 (fun c2 => ?_) fun c2 => ?_
        · rw [if_pos ⟨lr, c2⟩] at e2
          exact e2
        · rw [if_neg (fun h => c2 h.2)] at e2
          exact e2
      · have e2 := qn e sF
        rw [if_neg (fun h => c1 (by
          have h1 := h.1
          subst h1
          simp only [List.length_cons, List.length_nil] at lv ⊢
          omega))] at e2
        exact e2
    rintro τ F' ⟨rfl, rfl, hnl⟩
    refine cut_hide (fun τ F2 => τ = [some (.ref a), some (.ref fa), some (.int (l : Nat)), some (.bl inl), some (.str z), none, none] ∧ F2 = F' ∧ ∃ kk, tabOf partsT z = some kk ∧ (r.length : Int) + 3 = kk ∧ l ≠ 0) (fun M' hM => ?_) ?_
    · walk_at "wp"
      have e := cs_in (cb := cbOf rs size l) (inl := inl) (r := r) hnp hng hset hnl
      cases ht : tabOf partsT z with
      | none =>
        have e2 := qn e sF
        unfold cntIn at e2
        rw [ht] at e2
        exact ⟨none, PT.no z ht, Eq.mpr (if_pos rfl) e2⟩
      | some kk =>
        obtain ⟨tk, hn⟩ := PT.yes z kk ht
        refine ⟨_, hn, Eq.mpr (if_neg Bool.false_ne_true) ?_⟩
        refine ⟨_, .inr hsF, .int kk, ⟨es, n, _, PT.kd.at_, PT.kd.lit, hn, ⟨tk, rfl⟩⟩, rfl, ite2 (fun c => ?_) fun c => ?_⟩
        · have c' : (((V.str z :: v1 :: v2 :: vr).length : Nat) : Int) = kk := V.int.inj c
          have lr : (r.length : Int) + 3 = kk := by
            simp only [List.length_cons] at c' lv
            omega
          refine ⟨rfl, ite2 (fun c2 => ?_) fun c2 => hM _ _ ⟨rfl, rfl, kk, ht, lr, fun h => c2 (by rw [h]; rfl)⟩⟩
          have l0 : l = 0 := by
            have := c2
            omega
          have e2 := qn e sF
          rw [l0] at e2
          unfold cntIn at e2
          rw [ht] at e2
          exact e2
        · have e2 := qn e sF
          unfold cntIn at e2
          rw [ht] at e2
          have nl : ¬ ((r.length : Int) + 3 = kk) := fun h => c (by
            rw [← h]
            simp only [List.length_cons] at lv ⊢
            congr 1
            omega)
          cases l with
          | zero => exact e2
          | succ l =>
            change Q (optN (if (r.length : Int) + 3 = kk then _ else none)) _ at e2
            rw [if_neg nl] at e2
            exact e2
    rintro τ F2 ⟨rfl, rfl, kk, hkk, hlen, hl0⟩
    obtain ⟨l, rfl⟩ : ∃ l', l = l' + 1 := ⟨l - 1, by omega⟩
    have e := cs_in (cb := cbOf rs size (l + 1)) (inl := inl) (r := r) hnp hng hset hnl
    have hvr : DpAll K F2 vr r := by
      cases hpF with
      | cons _ h =>
        cases h with
        | cons _ h => exact h
    obtain ⟨_, smp2⟩ := sms_cons smp
    obtain ⟨_, smr⟩ := sms_cons smp2
    have lrr : r.length ≤ 1000 := by
      simp only [List.length_cons] at sm0
      omega
    refine cut_hide (fun τ F3 => ∃ c, τ = [some (.ref a), some (.ref fa), some (.int ((l + 1 : Nat) : Int)), some (.bl inl), some (.str z), some (.ref c), none] ∧ Same F2 F3 ∧ F3 c = some (.lst ((r.map (cntB rs size l (decide (z = "while")))).map optN))) (fun M' hM => ?_) ?_
    · walk_at "wp"
      refine sl_res hsF fun r2 A s1 hr2 => ?_
      rw [cut_three] at hr2
      refine ⟨r2, rfl, ⟨_, hr2⟩, ?_⟩
      refine lcw_it (walk_tup (xs := vr)) (fun D i F => Same A F ∧ A D = none ∧ F D = some (.lst (((r.take i).map (cntB rs size l (decide (z = "while")))).map optN))) (fun D hD => ⟨same_new hD, hD, upd_same⟩) (fun D i F _ h => Same.sqT h.1 hr2) ?_ ?_
      · rintro D i v A1 A2 hD hi ⟨sA, nD, hA⟩ ⟨rfl, hv⟩
        obtain ⟨p, hp, hpd⟩ := dpAll_get hvr hv
        walk_at "wp"
        have li := (List.getElem?_eq_some_iff.1 hp).1
        refine ⟨rfl, v, p, fa, rs, size, decide (z = "while"), ?_, dp_same (s1.trans sA) _ _ hpd, sms_mem smr (List.mem_of_getElem? hp), hfF.same (s1.trans sA), fun A3 s3 => ⟨_, s3 _ _ hA, by rw [List.length_map, List.length_map, List.length_take]; omega, same_mut (sA.trans s3) nD, nD, ?_⟩⟩
        · have : (((l + 1 : Nat) : Int) - 1) = (l : Nat) := by omega
          rw [this]
        · rw [upd_same, List.take_add_one, hp]
          simp
      · rintro D A1 hD ⟨sA, nD, hA⟩
        have el := dpAll_len hvr
        rw [el, List.take_length] at hA
        exact hM _ _ ⟨D, rfl, s1.trans sA, hA⟩
    rintro τ F3 ⟨c, rfl, s3, hc⟩
    walk_at "wp"
    refine ⟨_, .inl (SqL.of hc), rfl, flat_optN _, ?_⟩
    rw [inV_optN]
    have e2 := qn e (sF.trans s3)
    unfold cntIn at e2
    rw [hkk] at e2
    change Q (optN (if (r.length : Int) + 3 = kk then (sumO (r.map (cntB rs size l (decide (z = "while"))))).map (((tabOf ownT z).getD 0).toNat + ·) else none)) _ at e2
    rw [if_pos hlen] at e2
    cases hs2 : sumO (r.map (cntB rs size l (decide (z = "while")))) with
    | none =>
      rw [hs2] at e2
      exact Eq.mpr (if_pos rfl) e2
    | some t =>
      rw [hs2] at e2
      refine Eq.mpr (if_neg Bool.false_ne_true) ?_
      obtain ⟨ns, hns, rfl⟩ := sumO_some hs2
      obtain ⟨o, ho, ho0⟩ : ∃ o : Int, tabOf ownT z = some o ∧ 0 ≤ o := by
        rcases parts_cases hkk with ⟨rfl, _⟩ | ⟨rfl, _⟩
        · exact ⟨2, rfl, by decide⟩
        · exact ⟨3, rfl, by decide⟩
      obtain ⟨tk, hn⟩ := OT.yes z o ho
      rw [ho] at e2
      refine ⟨.int o, ⟨es2, n2, _, OT.kd.at_, OT.kd.lit, hn, ⟨tk, rfl⟩⟩, ns.map fun k => ((k : Nat) : Int), ?_, ?_⟩
      · have em : (ns.map fun k => ((k : Nat) : Int)).map V.int = (ns.map some).map optN := by
          rw [List.map_map, List.map_map]
          rfl
        rw [em, ← hns]
        exact SqL.of hc
      · rw [sum_cast]
        have : (o + ((ns.sum : Nat) : Int)) = ((o.toNat + ns.sum : Nat) : Int) := by omega
        refine ⟨o, rfl, ?_⟩
        rw [this]
        exact e2
end

end YY

set_option maxRecDepth 100000
set_option maxHeartbeats 4000000
namespace YY
open PySem PySem.Spec PyProof.Rows L2 XX
local macro_rules | `(tactic| walk_at "wp") => `(tactic| simp only [Int.zero_add, L2.start, LcEnd, List.append_nil, List.cons.injEq, List.cons_append, List.getElem?_cons_succ, List.getElem?_cons_zero, List.length_cons, List.length_nil, List.map_cons, List.map_nil, List.nil_append, List.replicate, List.replicate_succ, List.replicate_zero, List.set_cons_succ, List.set_cons_zero, Nat.reduceAdd, Nat.reduceSub, Option.some.injEq, StX.tMakeR, StX.tStar, V.bl.injEq, V.int.injEq, V.ref.injEq, V.str.injEq, V.ty.injEq, WE, and_assoc, and_false, and_true, bool_ite_false, bool_ite_true, cxOf_K, cxOf_noxK, dec_ite, decide_eq_true_eq, exists_and_left, exists_and_right, exists_const, exists_eq_left, exists_eq_left', false_and, false_or, gCons, gName, gNil, gSub, gTup, iEnumA, iItems, iKeys, iList, iRng1, iRng2, iStr, iTup, iZipB, ite_false, ite_true, ndec_ite, or_false, rAppend, rCat, rCatT, rEq, rEqI, rEqK, rEqV, rExt2, rI, rI0, rIn, rInRg, rIndex, rIsD, rIsE, rIsE2, rIxD, rIxL, rIxS, rIxT, rLenI, rLenK, rListStr, rMax, rMaxDef, rSetIM, rEqT, sFldAug, rAdd, rMin, rMulS, rNe, rNeDA, rNeV, rRange1, rRep, rRepA, rReprE, rReprI, rSetD, rSetI, rSetL, rSlL, rSlT, rSortedSet, rU, reduceCtorEq, reduceIte, sFld, tAnd, tAndV, tAsg, tAug, tB, tBM, tBM0, tC, tCB, tCKw, tDGetT, tCall, tCallS, tChain, tCons, tDGet, tDIn, tDNewK, tDNotIn, tDcT_eq, tDc_eq, tDisp, tDrop, tErr, tFld, tFor_eq, tIf, tIfS, tIxI, tLc2_eq, tLc_eq, tLenSetS, tLock, tLockE, tLst, tLstRg, tM1, tMakeRS, tMakeS, tMakeV, tMakeVS, tMeth, tMethX, tMkO, tMulA, tMulD, tNext, tNil, tNoPart, tNot, tNotV, tOp, tOpI, tOpR, tOr, tOrV, tOst, tPairs, tPar, tPar3, tPart, tRet, tRetN, tRevT, tRg2, tSMeth, tSeq, tSl, tTest, tTup, tUn, tVar, tVeI, tXf, tYes, true_and, wAs, wMA, wipe, rSum])
/-! ### _count_block, is_block -/
theorem fold_none {f : PyData → Option Nat} : ∀ ds : List PyData, ds.foldl (fun o d => addO o (f d)) none = none
  | [] => rfl
  | d :: ds => by
    rw [List.foldl_cons]
    exact fold_none ds
theorem fold_stop {f : PyData → Option Nat} {ds : List PyData} {i : Nat} {d : PyData} {m : Nat} (hd : ds[i]? = some d) (hm : (ds.take i).foldl (fun o d => addO o (f d)) (some 0) = some m) (h : addO (some m) (f d) = none) : cntBl f (.tuple ds) = none := by
  show ds.foldl (fun o d => addO o (f d)) (some 0) = none
  have e : ds = ds.take i ++ d :: ds.drop (i + 1) := by
    obtain ⟨hi, rfl⟩ := List.getElem?_eq_some_iff.1 hd
    rw [← List.drop_eq_getElem_cons hi, List.take_append_drop]
  rw [e, List.foldl_append, hm, List.foldl_cons, h]
  exact fold_none _
theorem fold_next {f : PyData → Option Nat} {ds : List PyData} {i : Nat} {d : PyData} {m : Nat} (hd : ds[i]? = some d) (hm : (ds.take i).foldl (fun o d => addO o (f d)) (some 0) = some m) : (ds.take (i + 1)).foldl (fun o d => addO o (f d)) (some 0) = addO (some m) (f d) := by
  rw [List.take_add_one, hd, List.foldl_append, hm]
  rfl
section
variable {P : Program} {w : World} {K : PySem.W.Frag} {mg : Str → Option Value} {base : Heap}
theorem scCB : FnScope ["value", "form", "levels", "in_loop", "many", "statement", "rows"] ["value", "form", "levels", "in_loop"] (defScope sCountB) := ⟨rfl, rfl, rfl, by decide +kernel, rfl, by decide +kernel, by decide +kernel⟩
theorem c_countB {l k : Nat} {tk : Tok} (D : Def K mg "_count_block" sCountB ["value", "form", "levels", "in_loop"]) (T : Bl2 mg) (gR : mg "MOST_ROWS" = some (.int 24 tk)) (cS : FnC P w K mg base CX0 k "_count_statement" ["value", "form", "levels", "in_loop"] (spCS K l)) : FnC P w K mg base CX0 (k + 1) "_count_block" ["value", "form", "levels", "in_loop"] (spCB K (l + 1)) := by
  refine D.ok scCB (fun vs H Q E h => ?_) (fun f cdv A outer s H vs Q E hr h => ?_)
  · obtain ⟨x, d, fa, rs, size, inl, rfl, _⟩ := h
    rfl
  · obtain ⟨x, d, fa, rs, size, inl, rfl, hx, hl, hf, q⟩ := h
    have sc := scCB
    refine ⟨_, (pss_cut (ps_if (pt_not (pt_val (pe_callB (call_isD ty_tuple) (by rfl) T.n_isinstance (by decide +kernel) (pa_cons (pv 0) (pa_cons (pe_ty "tuple" (by rfl) T.n_tuple) pa_nil))))) (pss_one (ps_ret pe_non)) pss_nil)
      (pss_cons (ps_set (i := 4) sc.nd rfl (Or.inl rfl) pe_int)
      (pss_cut (ps_for PassesOwn.never rfl (pi_tup (pv 0)) (pg_name (i := 5) sc.nd rfl (Or.inl rfl))
        (pss_cut (ps_set (i := 6) sc.nd rfl (Or.inl rfl) (pe_c cS hr rfl (pa_cons (pv 5) (pa_cons (pv 1) (pa_cons (pv 2) (pa_cons (pv 3) pa_nil))))))
        (pss_cut (ps_if (PW.pt (pw_or (pt_cmpR op_isN (pv 6) pe_non (nomark _)) (pw_or1 (pt_cmpR op_gt (pe_op op_add (pv 4) (pv 6)) (pe_glob (v := .int 24) (by rfl) gR ⟨_, rfl⟩) (nomark _))))) (pss_one (ps_ret pe_non)) pss_nil)
        (pss_one (ps_aug (i := 4) sc.nd rfl (Or.inl rfl) (pv 6) ip_add)))))
      (pss_one (ps_ret (pv 4)))))), ?_⟩
    have q0 : ∀ {o : Option Nat} {F : Hp}, cntB rs size l inl d = o → Same H F → Q (optN o) F := fun {o F} e s => by
      rw [← e]
      exact q F s
    rw [cntB_eq] at q0
    refine cut_hide (fun τ G => τ = [some x, some (.ref fa), some (.int (l : Nat)), some (.bl inl), none, none, none] ∧ G = H ∧ ∃ a ds xs, x = .ref a ∧ d = .tuple ds ∧ SqT K H a xs ∧ DpAll K H xs ds) (fun M' hM => ?_) ?_
    · walk_at "wp"
      refine ⟨d, hx, ?_⟩
      cases hx with
      | @tup a xs ds hs ha =>
        rw [if_neg (show ¬ (!isTy (tyOf (PyData.tuple ds)) "tuple") = true by rw [isTy_tuple]; exact Bool.false_ne_true)]
        exact hM _ _ ⟨rfl, rfl, a, ds, xs, rfl, rfl, hs, ha⟩
      | _ => exact Eq.mpr (if_pos (no_tup (by intro _ z; cases z))) (q0 rfl (Same.refl _))
    rintro τ G ⟨rfl, rfl, a, ds, xs, rfl, rfl, hs, hps⟩
    obtain ⟨sm0, sm1⟩ := sm_tup hl
    have lx := dpAll_len hps
    walk_at "wp"
    refine cut_hide (fun τ F => ∃ (m : Nat) (u5 u6 : Option V), τ = [some (.ref a), some (.ref fa), some (.int (l : Nat)), some (.bl inl), some (.int (m : Nat)), u5, u6] ∧ Same G F ∧ ds.foldl (fun o d => addO o (cntSt rs size (cbOf rs size l) inl d)) (some 0) = some m) (fun M' hM => ?_) ?_
    · walk_at "wp"
      refine ⟨⟨_, hs⟩, ?_⟩
      refine loop_it (walk_tup (xs := xs)) (fun i τ F => ∃ (m : Nat) (u5 u6 : Option V), τ = [some (.ref a), some (.ref fa), some (.int (l : Nat)), some (.bl inl), some (.int (m : Nat)), u5, u6] ∧ Same G F ∧ (ds.take i).foldl (fun o d => addO o (cntSt rs size (cbOf rs size l) inl d)) (some 0) = some m) ⟨0, _, _, rfl, Same.refl _, rfl⟩ (fun i τ F _ h => by obtain ⟨_, _, _, _, s, _⟩ := h; exact Same.sqT s hs) ?_ ?_
      · rintro i v τ F1 F2 hi ⟨m, u5, u6, rfl, sF, hm⟩ ⟨rfl, hv⟩
        obtain ⟨p, hp, hpd⟩ := dpAll_get hps hv
        walk_at "wp"
        refine cut_hide (fun τ F => τ = [some (.ref a), some (.ref fa), some (.int (l : Nat)), some (.bl inl), some (.int (m : Nat)), some v, some (optN (cntSt rs size (cbOf rs size l) inl p))] ∧ Same F2 F) (fun M' hM => ?_) ?_
        · walk_at "wp"
          exact ⟨v, p, fa, rs, size, inl, rfl, dp_same sF _ _ hpd, sms_mem sm1 (List.mem_of_getElem? hp), hf.same sF, fun F s => hM _ _ ⟨rfl, s⟩⟩
        rintro τ F3 ⟨rfl, s3⟩
        have sF3 := sF.trans s3
        cases ho : cntSt rs size (cbOf rs size l) inl p with
        | none =>
          refine cut_hide (fun τ F => False) (fun M' hM => ?_) (fun _ _ z => z.elim)
          walk_at "wp"
          exact Eq.mpr (if_pos rfl) (q0 (fold_stop hp hm (by rw [ho]; rfl)) sF3)
        | some r =>
          refine cut_hide (fun τ F => τ = [some (.ref a), some (.ref fa), some (.int (l : Nat)), some (.bl inl), some (.int (m : Nat)), some v, some (.int (r : Nat))] ∧ F = F3 ∧ m + r ≤ 24) (fun M' hM => ?_) ?_
          · walk_at "wp"
            refine Eq.mpr (if_neg (by intro z; cases z)) ⟨(r : Nat), rfl, ite2 (fun c => ?_) fun c => hM _ _ ⟨rfl, rfl, by omega⟩⟩
            refine q0 (fold_stop hp hm ?_) sF3
            rw [ho]
            show (if 24 < m + r then none else some (m + r)) = none
            rw [if_pos (by omega)]
          rintro τ F4 ⟨rfl, rfl, hle⟩
          walk_at "wp"
          have e2 := fold_next hp hm
          rw [ho] at e2
          change _ = (if 24 < m + r then none else some (m + r)) at e2
          rw [if_neg (by omega)] at e2
          exact ⟨_, _, rfl, rfl, m + r, by show V.int _ = V.int _; congr 1, ⟨_, rfl⟩, ⟨_, rfl⟩, sF3, e2⟩
      · rintro τ F ⟨m, u5, u6, rfl, sF, hm⟩
        rw [lx, List.take_length] at hm
        exact hM _ _ ⟨m, u5, u6, rfl, sF, hm⟩
    rintro τ F ⟨m, u5, u6, rfl, sF, hm⟩
    walk_at "wp"
    exact q0 hm sF
/-! ### is_block -/
def okB (rs : List Str) (size : Int) (d : PyData) : Bool := match cntB rs size 3 false d with
  | some n => decide (0 < n)
  | none => false
def spIsBlock (K : PySem.W.Frag) : Sp := fun vs H Q _ => ∃ (x : V) (d : PyData) (ra : Addr) (rs : List Str) (size : Int), vs = [x, .ref ra, .int size] ∧ Dp K H x d ∧ sm d = true ∧ SqT K H ra (rs.map V.str) ∧ ∀ G, Same H G → Q (.bl (okB rs size d)) G
theorem scIsBlock : FnScope ["value", "registers", "size", "many"] ["value", "registers", "size"] (defScope sIsBlock) := ⟨rfl, rfl, rfl, by decide +kernel, rfl, by decide +kernel, by decide +kernel⟩
theorem c_isBlock {tk : Tok} (D : Def K mg "is_block" sIsBlock ["value", "registers", "size"]) (gN : mg "MOST_NESTED" = some (.int 3 tk)) (cB : FnC P w K mg base CX0 13 "_count_block" ["value", "form", "levels", "in_loop"] (spCB K 4)) : FnC P w K mg base CX0 14 "is_block" ["value", "registers", "size"] (spIsBlock K) := by
  refine D.ok scIsBlock (fun vs H Q E h => ?_) (fun f cdv A outer s H vs Q E hr h => ?_)
  · obtain ⟨x, d, ra, rs, size, rfl, _⟩ := h
    rfl
  · obtain ⟨x, d, ra, rs, size, rfl, hx, hl, hR, q⟩ := h
    have sc := scIsBlock
    refine ⟨_, (pss_cut (ps_set (i := 3) sc.nd rfl (Or.inl rfl) (pe_c cB hr rfl (pa_cons (pv 0) (pa_cons (pe_tup (pa_cons (pv 1) (pa_cons (pv 2) pa_nil))) (pa_cons (pe_glob (v := .int 3) (by rfl) gN ⟨_, rfl⟩) (pa_cons pe_bl pa_nil))))))
      (pss_one (ps_ret (pe_and (pe_cmpR op_notN (pv 3) pe_non (nomark _)) (L2.pe_one (pe_cmpR op_gt (pv 3) pe_int (nomark _))))))), ?_⟩
    have hz := sizeLine_eq
    refine cut_hide (fun τ F => τ = [some x, some (.ref ra), some (.int size), some (optN (cntB rs size 3 false d))] ∧ Same H F) (fun M' hM => ?_) ?_
    · walk_at "wp"
      refine ⟨by omega, fun p np => ?_⟩
      have sp := same_new (o := .tup [V.ref ra, V.int size]) np
      exact ⟨x, d, p, rs, size, false, rfl, dp_same sp _ _ hx, hl, ⟨ra, SqT.of upd_same, Same.sqT sp hR⟩, fun F s => hM _ _ ⟨rfl, sp.trans s⟩⟩
    rintro τ F ⟨rfl, sF⟩
    have e := q F sF
    unfold okB at e
    walk_at "wp"
    cases ho : cntB rs size 3 false d with
    | none =>
      rw [ho] at e
      exact Eq.mpr (if_pos rfl) e
    | some n =>
      rw [ho] at e
      refine Eq.mpr (if_neg (by intro z; cases z)) ⟨(n : Nat), rfl, ?_⟩
      have : decide ((0 : Int) < (n : Nat)) = decide (0 < n) := decide_eq_decide.2 (by omega)
      rw [this]
      exact e
end

end YY

set_option maxRecDepth 100000
set_option maxHeartbeats 4000000
namespace YY
open PySem PySem.Spec PyProof.Rows L2 XX
local macro_rules | `(tactic| walk_at "wp") => `(tactic| simp only [Int.zero_add, L2.start, LcEnd, List.append_nil, List.cons.injEq, List.cons_append, List.getElem?_cons_succ, List.getElem?_cons_zero, List.length_cons, List.length_nil, List.map_cons, List.map_nil, List.nil_append, List.replicate, List.replicate_succ, List.replicate_zero, List.set_cons_succ, List.set_cons_zero, Nat.reduceAdd, Nat.reduceSub, Option.some.injEq, StX.tMakeR, StX.tStar, V.bl.injEq, V.int.injEq, V.ref.injEq, V.str.injEq, V.ty.injEq, WE, and_assoc, and_false, and_true, bool_ite_false, bool_ite_true, cxOf_K, cxOf_noxK, dec_ite, decide_eq_true_eq, exists_and_left, exists_and_right, exists_const, exists_eq_left, exists_eq_left', false_and, false_or, gCons, gName, gNil, gSub, gTup, iEnumA, iItems, iKeys, iList, iRng1, iRng2, iStr, iTup, iZipB, ite_false, ite_true, ndec_ite, or_false, rAppend, rCat, rCatT, rEq, rEqI, rEqK, rEqV, rExt2, rI, rI0, rIn, rInRg, rIndex, rIsD, rIsE, rIsE2, rIxD, rIxL, rIxS, rIxT, rLenI, rLenK, rListStr, rMax, rMaxDef, rSetIM, rEqT, sFldAug, rAdd, rMin, rMulS, rNe, rNeDA, rNeV, rRange1, rRep, rRepA, rReprE, rReprI, rSetD, rSetI, rSetL, rSlL, rSlT, rSortedSet, rU, reduceCtorEq, reduceIte, sFld, tAnd, tAndV, tAsg, tAug, tB, tBM, tBM0, tC, tCB, tCKw, tDGetT, tCall, tCallS, tChain, tCons, tDGet, tDIn, tDNewK, tDNotIn, tDcT_eq, tDc_eq, tDisp, tDrop, tErr, tFld, tFor_eq, tIf, tIfS, tIxI, tLc2_eq, tLc_eq, tLenSetS, tLock, tLockE, tLst, tLstRg, tM1, tMakeRS, tMakeS, tMakeV, tMakeVS, tMeth, tMethX, tMkO, tMulA, tMulD, tNext, tNil, tNoPart, tNot, tNotV, tOp, tOpI, tOpR, tOr, tOrV, tOst, tPairs, tPar, tPar3, tPart, tRet, tRetN, tRevT, tRg2, tSMeth, tSeq, tSl, tTest, tTup, tUn, tVar, tVeI, tXf, tYes, true_and, wAs, wMA, wipe, rSum])
/-! ### many_rows, rows_of -/
abbrev sManyR : Stmt := topS 20
abbrev sRowsOf : Stmt := topS 21
/-- what a good statement is -/
inductive StC (rs : List Str) (size : Int) (l : Nat) (inl : Bool) : PyData → Nat → Prop
  | plain {z : Str} {ps : List PyData} : z ∈ plainS → rowZ rs size (.tuple (.str z :: ps)) = true → StC rs size l inl (.tuple (.str z :: ps)) 1
  | group {p : PyData} : wordB p = true → StC rs size l inl (.tuple [.str "group", p]) 1
  | leave {a b : PyData} : inl = true → rowZ rs size (.tuple [.str "set", a, b]) = true → StC rs size l inl (.tuple [.str "leave", a, b]) 1
  | iff {l' n m : Nat} {a b x y : PyData} : l = l' + 1 → rowZ rs size (.tuple [.str "set", a, b]) = true → cntB rs size l' false x = some n → cntB rs size l' false y = some m → StC rs size l inl (.tuple [.str "if", a, b, x, y]) (2 + (n + m))
  | whil {l' n : Nat} {a b x : PyData} : l = l' + 1 → rowZ rs size (.tuple [.str "set", a, b]) = true → cntB rs size l' true x = some n → StC rs size l inl (.tuple [.str "while", a, b, x]) (3 + n)
theorem st_inv {rs : List Str} {size : Int} {l : Nat} {inl : Bool} {d : PyData} {r : Nat} (h : cntSt rs size (cbOf rs size l) inl d = some r) : StC rs size l inl d r := by
  match d, h with
  | .tuple (.str z :: ps), h =>
    by_cases hp : z ∈ plainS
    · rw [cs_plain hp] at h
      split at h
      · rename_i c
        cases h
        exact .plain hp c
      · cases h
    · by_cases hg : z = "group"
      · rw [cs_group hp hg] at h
        split at h
        · rename_i c
          cases h
          subst hg
          obtain ⟨c1, c2⟩ := c
          match ps, c1, c2 with
          | [p], _, c2 => exact .group c2
        · cases h
      · rw [cs_two hp hg] at h
        obtain ⟨a, b, q, rfl⟩ : ∃ a b q, ps = a :: b :: q := by
          match ps, h with
          | a :: b :: q, _ => exact ⟨a, b, q, rfl⟩
        · change (if rowZ rs size (.tuple [.str "set", a, b]) = true then (if z = "leave" then (if q = [] ∧ inl = true then some 1 else none) else cntIn (cbOf rs size l) z q) else none) = some r at h
          split at h
          · rename_i hset
            split at h
            · rename_i hl
              subst hl
              split at h
              · rename_i c
                cases h
                obtain ⟨rfl, c2⟩ := c
                exact .leave c2 hset
              · cases h
            · rename_i hl
              unfold cntIn at h
              cases ht : tabOf partsT z with
              | none =>
                rw [ht] at h
                cases h
              | some k =>
                rw [ht] at h
                cases l with
                | zero => cases h
                | succ l' =>
                  change (if (q.length : Int) + 3 = k then (sumO (q.map (cntB rs size l' (decide (z = "while"))))).map (((tabOf ownT z).getD 0).toNat + ·) else none) = some r at h
                  split at h
                  · rename_i hk
                    obtain ⟨t, ht2, rfl⟩ := Option.map_eq_some_iff.1 h
                    obtain ⟨ns, hns, rfl⟩ := sumO_some ht2
                    rcases parts_cases ht with ⟨rfl, rfl⟩ | ⟨rfl, rfl⟩
                    · match q, hk, ns, hns with
                      | [x, y], _, [n, m], hns =>
                        have hns' : [cntB rs size l' false x, cntB rs size l' false y] = [some n, some m] := hns
                        injection hns' with h1 h2
                        injection h2 with h2 _
                        exact .iff rfl hset h1 h2
                      | [x, y], _, [], hns => exact absurd (congrArg List.length hns) (by simp)
                      | [x, y], _, [_], hns => exact absurd (congrArg List.length hns) (by simp)
                      | [x, y], _, _ :: _ :: _ :: _, hns => exact absurd (congrArg List.length hns) (by simp)
                      | [], hk, _, _ => exact absurd hk (by decide)
                      | [_], hk, _, _ => exact absurd hk (by simp)
                      | _ :: _ :: _ :: _, hk, _, _ =>
                        simp only [List.length_cons] at hk
                        omega
                    · match q, hk, ns, hns with
                      | [x], _, [n], hns =>
                        have hns' : [cntB rs size l' true x] = [some n] := hns
                        injection hns' with h1 h2
                        exact .whil rfl hset h1
                      | [x], _, [], hns => exact absurd (congrArg List.length hns) (by simp)
                      | [x], _, _ :: _ :: _, hns => exact absurd (congrArg List.length hns) (by simp)
                      | [], hk, _, _ => exact absurd hk (by decide)
                      | _ :: _ :: _, hk, _, _ =>
                        simp only [List.length_cons] at hk
                        omega
                  · cases h
          · cases h
theorem fold_inv {f : PyData → Option Nat} : ∀ {ds : List PyData} {m n : Nat}, m ≤ 24 → ds.foldl (fun o d => addO o (f d)) (some m) = some n → ∃ ns : List Nat, Paired (fun d r => f d = some r) ds ns ∧ n = m + ns.sum ∧ n ≤ 24
  | [], m, n, hm, h => by
    cases h
    exact ⟨[], .nil, rfl, hm⟩
  | d :: ds, m, n, hm, h => by
    rw [List.foldl_cons] at h
    cases hf : f d with
    | none =>
      rw [hf] at h
      change ds.foldl _ none = some n at h
      rw [fold_none] at h
      cases h
    | some r =>
      rw [hf] at h
      change ds.foldl (fun o d => addO o (f d)) (if 24 < m + r then none else some (m + r)) = some n at h
      by_cases c : 24 < m + r
      · rw [if_pos c, fold_none] at h
        cases h
      · rw [if_neg c] at h
        obtain ⟨ns, h1, h2, h3⟩ := fold_inv (by omega) h
        exact ⟨r :: ns, .cons hf h1, by rw [h2, List.sum_cons]; omega, h3⟩
theorem bl_inv {rs : List Str} {size : Int} {l : Nat} {inl : Bool} {d : PyData} {n : Nat} (h : cntB rs size l inl d = some n) : ∃ ds ns, d = .tuple ds ∧ Paired (fun d r => StC rs size l inl d r) ds ns ∧ n = ns.sum ∧ n ≤ 24 := by
  rw [cntB_eq] at h
  match d, h with
  | .tuple ds, h =>
    obtain ⟨ns, h1, h2, h3⟩ := fold_inv (by decide) h
    exact ⟨ds, ns, rfl, L2.Paired.mapP h1 fun _ _ q => st_inv q, by omega, h3⟩
theorem paired_at {α β : Type} {R : α → β → Prop} : ∀ {xs : List α} {ys : List β}, Paired R xs ys → ∀ {i : Nat} {x : α}, xs[i]? = some x → ∃ y, ys[i]? = some y ∧ R x y
  | _, _, .nil, i, x, e => by simp at e
  | _, _, .cons h r, 0, x, e => by
    cases e
    exact ⟨_, rfl, h⟩
  | _, _, .cons h r, i + 1, x, e => by
    rw [List.getElem?_cons_succ] at e
    obtain ⟨y, h1, h2⟩ := paired_at r e
    exact ⟨y, by rw [List.getElem?_cons_succ]; exact h1, h2⟩
theorem paired_len' {α β : Type} {R : α → β → Prop} : ∀ {xs : List α} {ys : List β}, Paired R xs ys → xs.length = ys.length
  | _, _, .nil => rfl
  | _, _, .cons _ h => congrArg (· + 1) (paired_len' h)
section
variable {P : Program} {w : World} {K : PySem.W.Frag} {mg : Str → Option Value} {base : Heap}
def spRowsOf (K : PySem.W.Frag) (l : Nat) : Sp := fun vs H Q _ => ∃ (x : V) (d : PyData) (rs : List Str) (size : Int) (inl : Bool) (r : Nat), vs = [x] ∧ Dp K H x d ∧ sm d = true ∧ StC rs size l inl d r ∧ ∀ G, Same H G → Q (.int (r : Nat)) G
/-- many_rows below l, if any is asked -/
def spManyR (K : PySem.W.Frag) : Nat → Sp
  | 0 => fun _ _ _ _ => False
  | l + 1 => fun vs H Q _ => ∃ (x : V) (d : PyData) (rs : List Str) (size : Int) (inl : Bool) (n : Nat), vs = [x] ∧ Dp K H x d ∧ sm d = true ∧ cntB rs size l inl d = some n ∧ ∀ G, Same H G → Q (.int (n : Nat)) G
theorem scManyR : FnScope ["block", "statement"] ["block"] (defScope sManyR) := ⟨rfl, rfl, rfl, by decide +kernel, rfl, by decide +kernel, by decide +kernel⟩
theorem c_manyR {l k : Nat} (D : Def K mg "many_rows" sManyR ["block"]) (n_sum : mg "sum" = none) (cS : FnC P w K mg base CX0 k "rows_of" ["statement"] (spRowsOf K l)) : FnC P w K mg base CX0 (k + 1) "many_rows" ["block"] (spManyR K (l + 1)) := by
  refine D.ok scManyR (fun vs H Q E h => ?_) (fun f cdv A outer s H vs Q E hr h => ?_)
  · obtain ⟨x, d, rs, size, inl, n, rfl, _⟩ := h
    rfl
  · obtain ⟨x, d, rs, size, inl, n, rfl, hx, hl, hc, q⟩ := h
    have sc := scManyR
    refine ⟨_, (pss_one (ps_ret (pe_callB (cr_sum rfl) (by rfl) n_sum (by decide +kernel) (pa_cons (pe_lc (own := [("statement", 1)]) (g := gName 1) (tt := tYes) rfl sc.nd (pi_tup (pv 0)) (blkOk_by (N := ["block", "statement"]) (sc := defScope sManyR) (by decide +kernel)) (fun _ _ _ _ _ => (pg_name (i := 1) sc.nd rfl (Or.inl rfl))) (fun _ _ _ _ _ => pts_nil) (fun _ _ _ _ _ => (pe_c cS hr rfl (pa_cons (pv 1) pa_nil)))) pa_nil)))), ?_⟩
    have hz := sizeLine_eq
    obtain ⟨ds, ns, rfl, hp, rfl, hle⟩ := bl_inv hc
    obtain ⟨sm0, sm1⟩ := sm_tup hl
    have lp := paired_len' hp
    walk_at "wp"
    cases hx with
    | @tup a xs _ hs ha =>
      have lx := dpAll_len ha
      refine ⟨a, rfl, ⟨_, hs⟩, ?_⟩
      refine lcw_it (walk_tup (xs := xs)) (fun D i F => Same H F ∧ H D = none ∧ F D = some (.lst (((ns.take i).map fun k => ((k : Nat) : Int)).map V.int))) (fun D hD => ⟨same_new hD, hD, upd_same⟩) (fun D i F _ h => Same.sqT h.1 hs) ?_ ?_
      · rintro D i v A1 A2 hD hi ⟨sA, nD, hA⟩ ⟨rfl, hv⟩
        obtain ⟨p, hpi, hpd⟩ := dpAll_get ha hv
        obtain ⟨r, hr1, hr2⟩ := paired_at hp hpi
        have li := (List.getElem?_eq_some_iff.1 hpi).1
        walk_at "wp"
        refine ⟨v, p, rs, size, inl, r, rfl, dp_same sA _ _ hpd, sms_mem sm1 (List.mem_of_getElem? hpi), hr2, fun A3 s3 => ⟨_, s3 _ _ hA, by rw [List.length_map, List.length_map, List.length_take]; omega, same_mut (sA.trans s3) nD, nD, ?_⟩⟩
        rw [upd_same, List.take_add_one, hr1]
        simp
      · rintro D A1 hD ⟨sA, nD, hA⟩
        rw [lx, lp, List.take_length] at hA
        refine ⟨D, rfl, _, SqL.of hA, ?_⟩
        rw [sum_cast]
        exact q _ sA
theorem scRowsOf : FnScope ["statement", "word", "block"] ["statement"] (defScope sRowsOf) := ⟨rfl, rfl, rfl, by decide +kernel, rfl, by decide +kernel, by decide +kernel⟩
theorem c_rowsOf {l k : Nat} {pa oa : Addr} {es es2 : Array DictEntry} {n n2 : Nat} (D : Def K mg "rows_of" sRowsOf ["statement"]) (n_sum : mg "sum" = none) (PT : TabOk K w mg "PARTS" partsT pa es n) (OT : TabOk K w mg "OWN_ROWS" ownT oa es2 n2) (cM : FnC P w K mg base CX0 k "many_rows" ["block"] (spManyR K l)) : FnC P w K mg base CX0 (k + 1) "rows_of" ["statement"] (spRowsOf K l) := by
  refine D.ok scRowsOf (fun vs H Q E h => ?_) (fun f cdv A outer s H vs Q E hr h => ?_)
  · obtain ⟨x, d, rs, size, inl, r, rfl, _⟩ := h
    rfl
  · obtain ⟨x, d, rs, size, inl, r, rfl, hx, hl, hc, q⟩ := h
    have sc := scRowsOf
    refine ⟨_, (pss_cons (ps_set (i := 1) sc.nd rfl (Or.inl rfl) (pe_ix ix_tup (pv 0) pe_int (fun _ _ => rfl)))
      (pss_cons (ps_if (pt_cmpR (op_notIn_kd PT.kd) (pv 1) (pe_glob (v := .ref pa) rfl PT.g rfl) (by rfl)) (pss_one (ps_ret pe_int)) pss_nil)
      (pss_one (ps_ret (pe_op op_add (pe_ix ix_kdict (pe_glob (v := .ref oa) rfl OT.g rfl) (pv 1) (fun _ _ => rfl)) (pe_callB (cr_sum rfl) (by rfl) n_sum (by decide +kernel) (pa_cons (pe_lc (own := [("block", 2)]) (g := gName 2) (tt := tYes) rfl sc.nd (pi_tup (pe_slice sl_tupA (pv 0) (po_some pe_int) po_none)) (blkOk_by (N := ["statement", "word", "block"]) (sc := defScope sRowsOf) (by decide +kernel)) (fun _ _ _ _ _ => (pg_name (i := 2) sc.nd rfl (Or.inl rfl))) (fun _ _ _ _ _ => pts_nil) (fun _ _ _ _ _ => (pe_c cM hr rfl (pa_cons (pv 2) pa_nil)))) pa_nil))))))), ?_⟩
    have hz := sizeLine_eq
    obtain ⟨a, z, ps, vs, rfl, rfl, hs, hps⟩ : ∃ a z ps vs, x = .ref a ∧ d = .tuple (.str z :: ps) ∧ SqT K H a (.str z :: vs) ∧ DpAll K H vs ps := by
      have key : ∀ {z : Str} {ps : List PyData}, Dp K H x (.tuple (.str z :: ps)) → ∃ a vs, x = .ref a ∧ SqT K H a (.str z :: vs) ∧ DpAll K H vs ps := fun {z ps} h => by
        cases h with
        | tup h1 h2 =>
          cases h2 with
          | cons h3 h4 =>
            cases h3
            exact ⟨_, _, rfl, h1, h4⟩
      cases hc with
      | plain h1 h2 =>
        obtain ⟨a, vs, e1, e2, e3⟩ := key hx
        exact ⟨a, _, _, vs, e1, rfl, e2, e3⟩
      | group h1 =>
        obtain ⟨a, vs, e1, e2, e3⟩ := key hx
        exact ⟨a, _, _, vs, e1, rfl, e2, e3⟩
      | leave h1 h2 =>
        obtain ⟨a, vs, e1, e2, e3⟩ := key hx
        exact ⟨a, _, _, vs, e1, rfl, e2, e3⟩
      | iff h1 h2 h3 h4 =>
        obtain ⟨a, vs, e1, e2, e3⟩ := key hx
        exact ⟨a, _, _, vs, e1, rfl, e2, e3⟩
      | whil h1 h2 h3 =>
        obtain ⟨a, vs, e1, e2, e3⟩ := key hx
        exact ⟨a, _, _, vs, e1, rfl, e2, e3⟩
    obtain ⟨sm0, sm1⟩ := sm_tup hl
    obtain ⟨_, smp⟩ := sms_cons sm1
    walk_at "wp"
    have leaf : tabOf partsT z = none → r = 1 → Q (.int 1) H := fun _ e => by
      have := q H (Same.refl H)
      rw [e] at this
      exact this
    have deep : ∀ {rest : List PyData} {ns : List Nat} {o : Int} {l' : Nat} {p1 p2 : PyData} {i2 : Bool}, l = l' + 1 → ps = p1 :: p2 :: rest → Paired (fun d n => cntB rs size l' i2 d = some n) rest ns → rest.length ≤ 2 → tabOf ownT z = some o → (r : Int) = o + ((ns.sum : Nat) : Int) → (∃ k, tabOf partsT z = some k) → ∃ z_1, V.str z = V.str z_1 ∧ ∃ x, PySem.W.nsIn K pa z_1 = some x ∧ if (!x.isSome) = true then Q (V.int 1) H else ∃ x, V.str z = V.str x ∧ ∃ x_1, KDct K w oa x x_1 ∧ rSlA K (V.ref a) (some 3) none H fun x H1 => ∃ a_1, x = V.ref a_1 ∧ (∃ xs, SqT K H1 a_1 xs) ∧ LcW (Itt K a_1) (gName 2) tYes (tCall (spManyR K l) [] E0 (tCons (tVar 2) tNil)) [2] [some (V.ref a), some (V.str z), none] H1 fun x H1 => ∃ a, x = V.ref a ∧ ∃ x, SqL K H1 a (List.map V.int x) ∧ ∃ i, x_1 = V.int i ∧ Q (V.int (i + x.sum)) H1 := fun {rest ns o l' p1 p2 i2} el ep hp hrl ho hr' hk => by
      subst el ep
      obtain ⟨k, hk⟩ := hk
      obtain ⟨tk, hn⟩ := PT.yes z k hk
      obtain ⟨tk2, hn2⟩ := OT.yes z o ho
      obtain ⟨v1, v2, vr, rfl, hvr⟩ : ∃ v1 v2 vr, vs = v1 :: v2 :: vr ∧ DpAll K H vr rest := by
        cases hps with
        | cons _ h =>
          cases h with
          | cons _ h => exact ⟨_, _, _, rfl, h⟩
      obtain ⟨_, smp2⟩ := sms_cons smp
      obtain ⟨_, smr⟩ := sms_cons smp2
      have lp := paired_len' hp
      refine ⟨z, rfl, _, hn, Eq.mpr (if_neg Bool.false_ne_true) ⟨z, rfl, .int o, ⟨es2, n2, _, OT.kd.at_, OT.kd.lit, hn2, ⟨tk2, rfl⟩⟩, ?_⟩⟩
      refine sl_res hs fun r2 A s1 hr2 => ?_
      rw [cut_three] at hr2
      refine ⟨r2, rfl, ⟨_, hr2⟩, ?_⟩
      have lx := dpAll_len hvr
      refine lcw_it (walk_tup (xs := vr)) (fun D i F => Same A F ∧ A D = none ∧ F D = some (.lst (((ns.take i).map fun k => ((k : Nat) : Int)).map V.int))) (fun D hD => ⟨same_new hD, hD, upd_same⟩) (fun D i F _ h => Same.sqT h.1 hr2) ?_ ?_
      · rintro D i v A1 A2 hD hi ⟨sA, nD, hA⟩ ⟨rfl, hv⟩
        obtain ⟨p, hpi, hpd⟩ := dpAll_get hvr hv
        obtain ⟨m, hm1, hm2⟩ := paired_at hp hpi
        have li := (List.getElem?_eq_some_iff.1 hpi).1
        walk_at "wp"
        refine ⟨v, p, rs, size, i2, m, rfl, dp_same (s1.trans sA) _ _ hpd, sms_mem smr (List.mem_of_getElem? hpi), hm2, fun A3 s3 => ⟨_, s3 _ _ hA, by rw [List.length_map, List.length_map, List.length_take]; omega, same_mut (sA.trans s3) nD, nD, ?_⟩⟩
        rw [upd_same, List.take_add_one, hm1]
        simp
      · rintro D A1 hD ⟨sA, nD, hA⟩
        rw [lx, lp, List.take_length] at hA
        refine ⟨D, rfl, _, SqL.of hA, o, rfl, ?_⟩
        rw [sum_cast, ← hr']
        exact q _ (s1.trans sA)
    refine ⟨_, hs, _, at_of (j := 0) rfl rfl, ?_⟩
    cases hc with
    | plain h1 h2 =>
      have ht : tabOf partsT z = none := by
        have key : ∀ y ∈ plainS, tabOf partsT y = none := by decide +kernel
        exact key z h1
      exact ⟨z, rfl, _, PT.no z ht, Eq.mpr (if_pos rfl) (leaf ht rfl)⟩
    | group h1 => exact ⟨_, rfl, _, PT.no _ rfl, Eq.mpr (if_pos rfl) (leaf rfl rfl)⟩
    | leave h1 h2 => exact ⟨_, rfl, _, PT.no _ rfl, Eq.mpr (if_pos rfl) (leaf rfl rfl)⟩
    | @iff l' n m p1 p2 x y h1 h2 h3 h4 => exact deep h1 rfl (.cons h3 (.cons h4 .nil)) (by simp) (o := 2) rfl (by simp only [List.sum_cons, List.sum_nil]; omega) ⟨5, rfl⟩
    | @whil l' n p1 p2 x h1 h2 h3 => exact deep h1 rfl (.cons h3 .nil) (by simp) (o := 3) rfl (by simp only [List.sum_cons, List.sum_nil]; omega) ⟨4, rfl⟩
end

end YY

set_option maxRecDepth 100000
set_option maxHeartbeats 4000000
namespace YY
open PySem PySem.Spec PyProof.Rows L2 XX
local macro_rules | `(tactic| walk_at "wp") => `(tactic| simp only [Int.zero_add, L2.start, LcEnd, List.append_nil, List.cons.injEq, List.cons_append, List.getElem?_cons_succ, List.getElem?_cons_zero, List.length_cons, List.length_nil, List.map_cons, List.map_nil, List.nil_append, List.replicate, List.replicate_succ, List.replicate_zero, List.set_cons_succ, List.set_cons_zero, Nat.reduceAdd, Nat.reduceSub, Option.some.injEq, StX.tMakeR, StX.tStar, V.bl.injEq, V.int.injEq, V.ref.injEq, V.str.injEq, V.ty.injEq, WE, and_assoc, and_false, and_true, bool_ite_false, bool_ite_true, cxOf_K, cxOf_noxK, dec_ite, decide_eq_true_eq, exists_and_left, exists_and_right, exists_const, exists_eq_left, exists_eq_left', false_and, false_or, gCons, gName, gNil, gSub, gTup, iEnumA, iItems, iKeys, iList, iRng1, iRng2, iStr, iTup, iZipB, ite_false, ite_true, ndec_ite, or_false, rAppend, rCat, rCatT, rEq, rEqI, rEqK, rEqV, rExt2, rI, rI0, rIn, rInRg, rIndex, rIsD, rIsE, rIsE2, rIxD, rIxL, rIxS, rIxT, rLenI, rLenK, rListStr, rMax, rMaxDef, rSetIM, rEqT, sFldAug, rAdd, rMin, rMulS, rNe, rNeDA, rNeV, rRange1, rRep, rRepA, rReprE, rReprI, rSetD, rSetI, rSetL, rSlL, rSlT, rSortedSet, rU, reduceCtorEq, reduceIte, sFld, tAnd, tAndV, tAsg, tAug, tB, tBM, tBM0, tC, tCB, tCKw, tDGetT, tCall, tCallS, tChain, tCons, tDGet, tDIn, tDNewK, tDNotIn, tDcT_eq, tDc_eq, tDisp, tDrop, tErr, tFld, tFor_eq, tIf, tIfS, tIxI, tLc2_eq, tLc_eq, tLenSetS, tLock, tLockE, tLst, tLstRg, tM1, tMakeRS, tMakeS, tMakeV, tMakeVS, tMeth, tMethX, tMkO, tMulA, tMulD, tNext, tNil, tNoPart, tNot, tNotV, tOp, tOpI, tOpR, tOr, tOrV, tOst, tPairs, tPar, tPar3, tPart, tRet, tRetN, tRevT, tRg2, tSMeth, tSeq, tSl, tTest, tTup, tUn, tVar, tVeI, tXf, tYes, true_and, wAs, wMA, wipe, rSum])
/-! ### lowered rows -/
abbrev sLowered : Stmt := topS 22
abbrev sWriteB : Stmt := topS 23
abbrev sWriteIf : Stmt := topS 24
abbrev sWriteWh : Stmt := topS 25
def optD : Option Nat → PyData
  | none => .none
  | some n => .int (n : Nat)
theorem dp_optN {K : PySem.W.Frag} {H : Hp} (o : Option Nat) : Dp K H (optN o) (optD o) := by
  cases o with
  | none => exact .non
  | some n => exact .int _
abbrev LB := Nat → Option Nat → Option Nat → PyData → List PyData
def ifR (a b : PyData) (t j : Nat) : PyData := .tuple [.str "if", a, b, .int (t : Nat), .int (j : Nat)]
def goR (t : Nat) : PyData := .tuple [.str "go", .int (t : Nat)]
def lowIf (lb : LB) (s : Nat) (lo be : Option Nat) (n m : Nat) (a b x y : PyData) : List PyData := ifR a b (s + 2 + m) (s + 2 + m + n) :: (lb (s + 1) lo be y ++ (goR (s + 2 + m + n) :: lb (s + 2 + m) lo be x))
def lowWh (lb : LB) (s n : Nat) (a b x : PyData) : List PyData := ifR a b (s + 2) (s + (3 + n)) :: goR (s + (3 + n)) :: (lb (s + 2) (some s) (some (s + (3 + n))) x ++ [goR s])
def lowSt (cn : Bool → PyData → Nat) (lb : LB) (s : Nat) (lo be : Option Nat) : PyData → List PyData
  | .tuple (.str z :: ps) =>
    if z = "if" then lowIf lb s lo be (cn false (ps.getD 2 .none)) (cn false (ps.getD 3 .none)) (ps.getD 0 .none) (ps.getD 1 .none) (ps.getD 2 .none) (ps.getD 3 .none)
    else if z = "while" then lowWh lb s (cn true (ps.getD 2 .none)) (ps.getD 0 .none) (ps.getD 1 .none) (ps.getD 2 .none)
    else if z = "leave" then [.tuple [.str "if", ps.getD 0 .none, ps.getD 1 .none, optD be, optD be]]
    else if z = "group" then [.tuple ((.str z :: ps) ++ [optD lo])]
    else [.tuple (.str z :: ps)]
  | _ => []
def lowBs (f : Nat → PyData → List PyData) : Nat → List PyData → List PyData
  | _, [] => []
  | s, d :: ds => f s d ++ lowBs f (s + (f s d).length) ds
def itemsT : PyData → List PyData
  | .tuple ds => ds
  | _ => []
def lowB (rs : List Str) (size : Int) : Nat → LB
  | 0 => fun s lo be d => lowBs (fun s d => lowSt (fun _ _ => 0) (fun _ _ _ _ => []) s lo be d) s (itemsT d)
  | l + 1 => fun s lo be d => lowBs (fun s d => lowSt (fun i x => (cntB rs size l i x).getD 0) (lowB rs size l) s lo be d) s (itemsT d)
def lbOf (rs : List Str) (size : Int) : Nat → LB
  | 0 => fun _ _ _ _ => []
  | l + 1 => lowB rs size l
def cnOf (rs : List Str) (size : Int) : Nat → Bool → PyData → Nat
  | 0 => fun _ _ => 0
  | l + 1 => fun i x => (cntB rs size l i x).getD 0
theorem lowB_eq (rs : List Str) (size : Int) (l s : Nat) (lo be : Option Nat) (ds : List PyData) : lowB rs size l s lo be (.tuple ds) = lowBs (fun s d => lowSt (cnOf rs size l) (lbOf rs size l) s lo be d) s ds := by
  cases l <;> rfl
theorem lowBs_snoc (f : Nat → PyData → List PyData) (d : PyData) : ∀ (ds : List PyData) (s : Nat), lowBs f s (ds ++ [d]) = lowBs f s ds ++ f (s + (lowBs f s ds).length) d
  | [], s => by
    show f s d ++ [] = [] ++ f (s + 0) d
    rw [List.append_nil, List.nil_append, Nat.add_zero]
  | e :: ds, s => by
    show f s e ++ lowBs f (s + (f s e).length) (ds ++ [d]) = (f s e ++ lowBs f (s + (f s e).length) ds) ++ f (s + (f s e ++ lowBs f (s + (f s e).length) ds).length) d
    rw [lowBs_snoc f d ds, List.append_assoc, List.length_append, Nat.add_assoc]
section
variable {rs : List Str} {size : Int}
theorem low_plain {cn : Bool → PyData → Nat} {lb : LB} {s : Nat} {lo be : Option Nat} {z : Str} {ps : List PyData} (h : z ∈ plainS) : lowSt cn lb s lo be (.tuple (.str z :: ps)) = [.tuple (.str z :: ps)] := by
  have key : ∀ y ∈ plainS, y ≠ "if" ∧ y ≠ "while" ∧ y ≠ "leave" ∧ y ≠ "group" := by decide +kernel
  obtain ⟨h1, h2, h3, h4⟩ := key z h
  show (if z = "if" then _ else if z = "while" then _ else if z = "leave" then _ else if z = "group" then _ else _) = _
  rw [if_neg h1, if_neg h2, if_neg h3, if_neg h4]
theorem lowBs_len {l : Nat} {inl : Bool} {f : Nat → PyData → List PyData} (hf : ∀ s d r, StC rs size l inl d r → (f s d).length = r) : ∀ {ds : List PyData} {ns : List Nat}, Paired (fun d r => StC rs size l inl d r) ds ns → ∀ s, (lowBs f s ds).length = ns.sum
  | _, _, .nil, s => rfl
  | d :: ds, n :: ns, .cons h t, s => by
    show (f s d ++ lowBs f (s + (f s d).length) ds).length = _
    rw [List.length_append, hf s d n h, lowBs_len hf t, List.sum_cons]
theorem st_len {l : Nat} (hb : ∀ l', l = l' + 1 → ∀ i d n s lo be, cntB rs size l' i d = some n → (lowB rs size l' s lo be d).length = n) {inl : Bool} {d : PyData} {r s : Nat} {lo be : Option Nat} (h : StC rs size l inl d r) : (lowSt (cnOf rs size l) (lbOf rs size l) s lo be d).length = r := by
  cases h with
  | plain h1 h2 => rw [low_plain h1]; rfl
  | group h1 => rfl
  | leave h1 h2 => rfl
  | @iff l' n m a b x y h1 h2 h3 h4 =>
    subst h1
    show (lowIf (lowB rs size l') s lo be ((cntB rs size l' false x).getD 0) ((cntB rs size l' false y).getD 0) a b x y).length = _
    rw [h3, h4]
    show (lowIf (lowB rs size l') s lo be n m a b x y).length = _
    unfold lowIf
    rw [List.length_cons, List.length_append, List.length_cons, hb l' rfl _ _ _ _ _ _ h3, hb l' rfl _ _ _ _ _ _ h4]
    omega
  | @whil l' n a b x h1 h2 h3 =>
    subst h1
    show (lowWh (lowB rs size l') s ((cntB rs size l' true x).getD 0) a b x).length = _
    rw [h3]
    show (lowWh (lowB rs size l') s n a b x).length = _
    unfold lowWh
    rw [List.length_cons, List.length_cons, List.length_append, hb l' rfl _ _ _ _ _ _ h3]
    show n + 1 + 1 + 1 = _
    omega
theorem low_len : ∀ (l : Nat) {i : Bool} {d : PyData} {n s : Nat} {lo be : Option Nat}, cntB rs size l i d = some n → (lowB rs size l s lo be d).length = n
  | 0, i, d, n, s, lo, be, h => by
    obtain ⟨ds, ns, rfl, hp, rfl, _⟩ := bl_inv h
    rw [lowB_eq]
    exact lowBs_len (fun s d r hr => st_len (fun l' e => by cases e) hr) hp s
  | l + 1, i, d, n, s, lo, be, h => by
    obtain ⟨ds, ns, rfl, hp, rfl, _⟩ := bl_inv h
    rw [lowB_eq]
    exact lowBs_len (fun s d r hr => st_len (fun l' e i d n s lo be h => by cases e; exact low_len l h) hr) hp s
end
/-! ### heaps but for one list -/
theorem del_upd {p : Addr} {H : Hp} {o : HO} : del (upd H p o) p = del H p := by
  funext b
  by_cases c : b = p
  · rw [c, del_same, del_same]
  · rw [del_ne c, del_ne c, upd_ne c]
theorem del_mono {p : Addr} {H G : Hp} (s : Same H G) : Same (del H p) (del G p) := fun b o h => by
  by_cases c : b = p
  · rw [c, del_same] at h
    cases h
  · rw [del_ne c] at h ⊢
    exact s b o h
theorem del_put {p t : Addr} {H : Hp} {o q : HO} (h : H p = some q) (n : H t = none) : Same (del H p) (del (upd H t o) p) ∧ del (upd H t o) p t = some o := by
  have ne : t ≠ p := fun e => by
    rw [e, h] at n
    cases n
  exact ⟨del_mono (same_new n), by rw [del_ne ne, upd_same]⟩
theorem app_step {ra p : Addr} {F : Hp} {o q : HO} {L : List V} (h : F ra = some (.lst L)) (n : F p = none) : (upd F p o) ra = some (.lst L) ∧ Same (del F ra) (del (upd (upd F p o) ra q) ra) ∧ del (upd (upd F p o) ra q) ra p = some o := by
  obtain ⟨h1, h2⟩ := del_put (o := o) h n
  rw [del_upd]
  exact ⟨same_new n _ _ h, h1, h2⟩
theorem dps_app {K : PySem.W.Frag} {H : Hp} : ∀ {a b : List V} {ds es : List PyData}, DpAll K H a ds → DpAll K H b es → DpAll K H (a ++ b) (ds ++ es)
  | _, _, _, _, .nil, h => h
  | _, _, _, _, .cons h t, g => .cons h (dps_app t g)

end YY

set_option maxRecDepth 100000
set_option maxHeartbeats 4000000
namespace YY
open PySem PySem.Spec PyProof.Rows L2 XX
local macro_rules | `(tactic| walk_at "wp") => `(tactic| simp only [Int.zero_add, L2.start, LcEnd, List.append_nil, List.cons.injEq, List.cons_append, List.getElem?_cons_succ, List.getElem?_cons_zero, List.length_cons, List.length_nil, List.map_cons, List.map_nil, List.nil_append, List.replicate, List.replicate_succ, List.replicate_zero, List.set_cons_succ, List.set_cons_zero, Nat.reduceAdd, Nat.reduceSub, Option.some.injEq, StX.tMakeR, StX.tStar, V.bl.injEq, V.int.injEq, V.ref.injEq, V.str.injEq, V.ty.injEq, WE, and_assoc, and_false, and_true, bool_ite_false, bool_ite_true, cxOf_K, cxOf_noxK, dec_ite, decide_eq_true_eq, exists_and_left, exists_and_right, exists_const, exists_eq_left, exists_eq_left', false_and, false_or, gCons, gName, gNil, gSub, gTup, iEnumA, iItems, iKeys, iList, iRng1, iRng2, iStr, iTup, iZipB, ite_false, ite_true, ndec_ite, or_false, rAppend, rCat, rCatT, rEq, rEqI, rEqK, rEqV, rExt2, rI, rI0, rIn, rInRg, rIndex, rIsD, rIsE, rIsE2, rIxD, rIxL, rIxS, rIxT, rLenI, rLenK, rListStr, rMax, rMaxDef, rSetIM, rEqT, sFldAug, rAdd, rMin, rMulS, rNe, rNeDA, rNeV, rRange1, rRep, rRepA, rReprE, rReprI, rSetD, rSetI, rSetL, rSlL, rSlT, rSortedSet, rU, reduceCtorEq, reduceIte, sFld, tAnd, tAndV, tAsg, tAug, tB, tBM, tBM0, tC, tCB, tCKw, tDGetT, tCall, tCallS, tChain, tCons, tDGet, tDIn, tDNewK, tDNotIn, tDcT_eq, tDc_eq, tDisp, tDrop, tErr, tFld, tFor_eq, tIf, tIfS, tIxI, tLc2_eq, tLc_eq, tLenSetS, tLock, tLockE, tLst, tLstRg, tM1, tMakeRS, tMakeS, tMakeV, tMakeVS, tMeth, tMethX, tMkO, tMulA, tMulD, tNext, tNil, tNoPart, tNot, tNotV, tOp, tOpI, tOpR, tOr, tOrV, tOst, tPairs, tPar, tPar3, tPart, tRet, tRetN, tRevT, tRg2, tSMeth, tSeq, tSl, tTest, tTup, tUn, tVar, tVeI, tXf, tYes, true_and, wAs, wMA, wipe, rSum])
/-! ### _write_if, _write_while -/
section
variable {P : Program} {w : World} {K : PySem.W.Frag} {mg : Str → Option Value} {base : Heap}
/-- the list at ra has xs, and goes on by what es tells -/
def Adds (K : PySem.W.Frag) (ra : Addr) (xs : List V) (H : Hp) (es : List PyData) (Q : Hp → Prop) : Prop := ∀ G ys, Same (del H ra) (del G ra) → G ra = some (.lst (xs ++ ys)) → DpAll K (del G ra) ys es → Q G
/-- _write_block below l, if any is asked -/
def spWB (K : PySem.W.Frag) : Nat → Sp
  | 0 => fun _ _ _ _ => False
  | l + 1 => fun vs H Q _ => ∃ (ra : Addr) (xs : List V) (x : V) (d : PyData) (rs : List Str) (size : Int) (inl : Bool) (n : Nat) (lo be : Option Nat), vs = [.ref ra, x, optN lo, optN be] ∧ H ra = some (.lst xs) ∧ Dp K (del H ra) x d ∧ sm d = true ∧ cntB rs size l inl d = some n ∧ xs.length + n ≤ 1000 ∧ Adds K ra xs H (lowB rs size l xs.length lo be d) (Q .non)
def spWIf (K : PySem.W.Frag) (l : Nat) : Sp := fun vs H Q _ => ∃ (ra : Addr) (xs : List V) (x : V) (rs : List Str) (size : Int) (l' n m : Nat) (lo be : Option Nat) (a b p q : PyData), l = l' + 1 ∧ vs = [.ref ra, x, optN lo, optN be] ∧ H ra = some (.lst xs) ∧ Dp K (del H ra) x (.tuple [.str "if", a, b, p, q]) ∧ sm (.tuple [.str "if", a, b, p, q]) = true ∧ cntB rs size l' false p = some n ∧ cntB rs size l' false q = some m ∧ xs.length + (2 + (n + m)) ≤ 1000 ∧
  Adds K ra xs H (lowIf (lowB rs size l') xs.length lo be n m a b p q) (Q .non)
def spWWh (K : PySem.W.Frag) (l : Nat) : Sp := fun vs H Q _ => ∃ (ra : Addr) (xs : List V) (x : V) (rs : List Str) (size : Int) (l' n : Nat) (a b p : PyData), l = l' + 1 ∧ vs = [.ref ra, x] ∧ H ra = some (.lst xs) ∧ Dp K (del H ra) x (.tuple [.str "while", a, b, p]) ∧ sm (.tuple [.str "while", a, b, p]) = true ∧ rowZ rs size (.tuple [.str "set", a, b]) = true ∧ cntB rs size l' true p = some n ∧ xs.length + (3 + n) ≤ 1000 ∧
  Adds K ra xs H (lowWh (lowB rs size l') xs.length n a b p) (Q .non)
theorem scWIf : FnScope ["rows", "statement", "loop", "behind", "_", "word", "value", "block", "other", "to", "join"] ["rows", "statement", "loop", "behind"] (defScope sWriteIf) := ⟨rfl, rfl, rfl, by decide +kernel, rfl, by decide +kernel, by decide +kernel⟩
theorem c_writeIf {l k : Nat} (D : Def K mg "_write_if" sWriteIf ["rows", "statement", "loop", "behind"]) (T : Bl2 mg) (cM : FnC P w K mg base CX0 k "many_rows" ["block"] (spManyR K l)) (cB : FnC P w K mg base CX0 k "_write_block" ["rows", "block", "loop", "behind"] (spWB K l)) : FnC P w K mg base CX0 (k + 1) "_write_if" ["rows", "statement", "loop", "behind"] (spWIf K l) := by
  refine D.ok scWIf (fun vs H Q E h => ?_) (fun f cdv A outer s H vs Q E hr h => ?_)
  · obtain ⟨_, _, _, _, _, _, _, _, _, _, _, _, _, _, _, rfl, _⟩ := h
    rfl
  · obtain ⟨ra, xs, x, rs, size, l', n, m, lo, be, a, b, p, q, rfl, rfl, hra, hx, hl, hp, hq, hlen, hQ⟩ := h
    have sc := scWIf
    refine ⟨_, (pss_cut (ps_asg (pv 1) (pg_tup (by rfl) (pgs_cons (pg_name (i := 4) sc.nd rfl (Or.inl rfl)) (pgs_cons (pg_name (i := 5) sc.nd rfl (Or.inl rfl)) (pgs_cons (pg_name (i := 6) sc.nd rfl (Or.inl rfl)) (pgs_cons (pg_name (i := 7) sc.nd rfl (Or.inl rfl)) (pgs_cons (pg_name (i := 8) sc.nd rfl (Or.inl rfl)) pgs_nil)))))))
      (pss_cut (ps_set (i := 9) sc.nd rfl (Or.inl rfl) (pe_op op_add (pe_op op_add (pe_callB call_len_seq (by rfl) T.n_len (by decide +kernel) (pa_cons (pv 0) pa_nil)) pe_int) (pe_c cM hr rfl (pa_cons (pv 8) pa_nil))))
      (pss_cut (ps_set (i := 10) sc.nd rfl (Or.inl rfl) (pe_op op_add (pv 9) (pe_c cM hr rfl (pa_cons (pv 7) pa_nil))))
      (pss_cut (ps_expr (pe_bm PySem.F.plainAttrs_list PySem.F.slot_list_append PySem.F.type_list_append mt_append (pv 0) (pa_cons (pe_tup (pa_cons pe_str (pa_cons (pv 5) (pa_cons (pv 6) (pa_cons (pv 9) (pa_cons (pv 10) pa_nil)))))) pa_nil)))
      (pss_cut (ps_expr (pe_c cB hr rfl (pa_cons (pv 0) (pa_cons (pv 8) (pa_cons (pv 2) (pa_cons (pv 3) pa_nil))))))
      (pss_cut (ps_expr (pe_bm PySem.F.plainAttrs_list PySem.F.slot_list_append PySem.F.type_list_append mt_append (pv 0) (pa_cons (pe_tup (pa_cons pe_str (pa_cons (pv 10) pa_nil))) pa_nil)))
      (pss_one (ps_expr (pe_c cB hr rfl (pa_cons (pv 0) (pa_cons (pv 7) (pa_cons (pv 2) (pa_cons (pv 3) pa_nil))))))))))))), ?_⟩
    have hz := sizeLine_eq
    obtain ⟨xa, va, vb, vp, vq, rfl, hs, ha, hb, hvp, hvq⟩ : ∃ xa va vb vp vq, x = .ref xa ∧ SqT K (del H ra) xa [.str "if", va, vb, vp, vq] ∧ Dp K (del H ra) va a ∧ Dp K (del H ra) vb b ∧ Dp K (del H ra) vp p ∧ Dp K (del H ra) vq q := by
      cases hx with
      | tup h1 h2 =>
        cases h2 with
        | cons h3 h4 =>
          cases h3
          cases h4 with
          | cons h5 h6 =>
            cases h6 with
            | cons h7 h8 =>
              cases h8 with
              | cons h9 h10 =>
                cases h10 with
                | cons h11 h12 =>
                  cases h12
                  exact ⟨_, _, _, _, _, rfl, h1, h5, h7, h9, h11⟩
    obtain ⟨_, sm1⟩ := sm_tup hl
    obtain ⟨_, sm2⟩ := sms_cons sm1
    obtain ⟨_, sm3⟩ := sms_cons sm2
    obtain ⟨_, sm4⟩ := sms_cons sm3
    obtain ⟨smp, sm5⟩ := sms_cons sm4
    obtain ⟨smq, _⟩ := sms_cons sm5
    refine cut_hide (fun τ G => τ = [some (.ref ra), some (.ref xa), some (optN lo), some (optN be), some (.str "if"), some va, some vb, some vp, some vq, none, none] ∧ G = H) (fun M' hM => ?_) ?_
    · walk_at "wp"
      exact ⟨_, Same.sqT del_sub hs, rfl, _, _, rfl, _, _, rfl, _, _, rfl, _, _, rfl, _, _, rfl, rfl, hM _ _ ⟨rfl, rfl⟩⟩
    rintro τ G ⟨rfl, rfl⟩
    refine cut_hide (fun τ F => τ = [some (.ref ra), some (.ref xa), some (optN lo), some (optN be), some (.str "if"), some va, some vb, some vp, some vq, some (.int ((xs.length + 2 + m : Nat) : Int)), none] ∧ Same G F) (fun M' hM => ?_) ?_
    · walk_at "wp"
      refine ⟨_, .inl (SqL.of hra), vq, q, rs, size, false, m, rfl, dp_same del_sub _ _ hvq, smq, hq, fun F s => ⟨_, rfl, ?_⟩⟩
      have e : ((xs.length : Nat) : Int) + 2 + (m : Nat) = ((xs.length + 2 + m : Nat) : Int) := by omega
      rw [e]
      exact hM _ _ ⟨rfl, s⟩
    rintro τ F ⟨rfl, s1⟩
    refine cut_hide (fun τ F2 => τ = [some (.ref ra), some (.ref xa), some (optN lo), some (optN be), some (.str "if"), some va, some vb, some vp, some vq, some (.int ((xs.length + 2 + m : Nat) : Int)), some (.int ((xs.length + 2 + m + n : Nat) : Int))] ∧ Same G F2) (fun M' hM => ?_) ?_
    · walk_at "wp"
      refine ⟨vp, p, rs, size, false, n, rfl, dp_same s1 _ _ (dp_same del_sub _ _ hvp), smp, hp, fun F s => ⟨_, rfl, ?_⟩⟩
      have e : (((xs.length + 2 + m : Nat) : Int)) + (n : Nat) = ((xs.length + 2 + m + n : Nat) : Int) := by omega
      rw [e]
      exact hM _ _ ⟨rfl, s1.trans s⟩
    rintro τ F2 ⟨rfl, s2⟩
    have d2 := del_mono (p := ra) s2
    refine cut_hide (fun τ F3 => ∃ t, τ = [some (.ref ra), some (.ref xa), some (optN lo), some (optN be), some (.str "if"), some va, some vb, some vp, some vq, some (.int ((xs.length + 2 + m : Nat) : Int)), some (.int ((xs.length + 2 + m + n : Nat) : Int))] ∧ Same (del G ra) (del F3 ra) ∧ F3 ra = some (.lst (xs ++ [.ref t])) ∧ Dp K (del F3 ra) (.ref t) (ifR a b (xs.length + 2 + m) (xs.length + 2 + m + n))) (fun M' hM => ?_) ?_
    · walk_at "wp"
      have hra2 := s2 _ _ hra
      refine ⟨.inl ⟨rfl, _, SqL.of hra2⟩, by omega, fun t nt => ?_⟩
      obtain ⟨e1, e2, e3⟩ := app_step (o := .tup [V.str "if", va, vb, V.int ((xs.length + 2 + m : Nat) : Int), V.int ((xs.length + 2 + m + n : Nat) : Int)]) (q := .lst (xs ++ [V.ref t])) hra2 nt
      have dd := d2.trans e2
      exact ⟨_, e1, by omega, hM _ _ ⟨t, rfl, dd, upd_same, .tup (SqT.of e3) (.cons (.str _) (.cons (dp_same dd _ _ ha) (.cons (dp_same dd _ _ hb) (.cons (.int _) (.cons (.int _) .nil)))))⟩⟩
    rintro τ F3 ⟨t1, rfl, d3, hra3, ht1⟩
    refine cut_hide (fun τ F4 => ∃ ys, τ = [some (.ref ra), some (.ref xa), some (optN lo), some (optN be), some (.str "if"), some va, some vb, some vp, some vq, some (.int ((xs.length + 2 + m : Nat) : Int)), some (.int ((xs.length + 2 + m + n : Nat) : Int))] ∧ Same (del G ra) (del F4 ra) ∧ F4 ra = some (.lst (xs ++ .ref t1 :: ys)) ∧ DpAll K (del F4 ra) (.ref t1 :: ys) (ifR a b (xs.length + 2 + m) (xs.length + 2 + m + n) :: lowB rs size l' (xs.length + 1) lo be q)) (fun M' hM => ?_) ?_
    · walk_at "wp"
      refine ⟨ra, _, vq, q, rs, size, false, m, lo, be, rfl, hra3, dp_same d3 _ _ hvq, smq, hq, by rw [List.length_append]; show xs.length + 1 + m ≤ _; omega, fun F ys dF hF hys => hM _ _ ⟨ys, rfl, d3.trans dF, ?_, .cons (dp_same dF _ _ ht1) ?_⟩⟩
      · rw [hF, List.append_assoc]
        rfl
      · rw [List.length_append] at hys
        exact hys
    rintro τ F4 ⟨ys, rfl, d4, hra4, hd4⟩
    refine cut_hide (fun τ F5 => ∃ zs, τ = [some (.ref ra), some (.ref xa), some (optN lo), some (optN be), some (.str "if"), some va, some vb, some vp, some vq, some (.int ((xs.length + 2 + m : Nat) : Int)), some (.int ((xs.length + 2 + m + n : Nat) : Int))] ∧ Same (del G ra) (del F5 ra) ∧ F5 ra = some (.lst (xs ++ zs)) ∧ zs.length = 2 + m ∧ DpAll K (del F5 ra) zs (ifR a b (xs.length + 2 + m) (xs.length + 2 + m + n) :: (lowB rs size l' (xs.length + 1) lo be q ++ [goR (xs.length + 2 + m + n)]))) (fun M' hM => ?_) ?_
    · walk_at "wp"
      have ly := dpAll_len hd4
      rw [List.length_cons, List.length_cons, low_len l' hq] at ly
      refine ⟨.inl ⟨rfl, _, SqL.of hra4⟩, by omega, fun t nt => ?_⟩
      obtain ⟨e1, e2, e3⟩ := app_step (o := .tup [V.str "go", V.int ((xs.length + 2 + m + n : Nat) : Int)]) (q := .lst ((xs ++ .ref t1 :: ys) ++ [V.ref t])) hra4 nt
      refine ⟨_, e1, by simp only [List.length_append, List.length_cons]; omega, hM _ _ ⟨(.ref t1 :: ys) ++ [.ref t], rfl, d4.trans e2, ?_, ?_, ?_⟩⟩
      · rw [upd_same, List.append_assoc]
      · simp only [List.length_append, List.length_cons, List.length_nil]
        omega
      · exact dps_app (dps_same e2 _ _ hd4) (.cons (.tup (SqT.of e3) (.cons (.str _) (.cons (.int _) .nil))) .nil)
    rintro τ F5 ⟨zs, rfl, d5, hra5, lz, hd5⟩
    walk_at "wp"
    refine ⟨ra, _, vp, p, rs, size, false, n, lo, be, rfl, hra5, dp_same d5 _ _ hvp, smp, hp, by rw [List.length_append]; omega, fun F ys dF hF hys => ?_⟩
    have e : (xs ++ zs).length = xs.length + 2 + m := by
      rw [List.length_append]
      omega
    rw [e] at hys
    refine hQ F (zs ++ ys) (d5.trans dF) (by rw [hF, List.append_assoc]) ?_
    have := dps_app (dps_same dF _ _ hd5) hys
    unfold lowIf
    rw [List.cons_append, List.append_assoc] at this
    exact this
end

end YY

set_option maxRecDepth 100000
set_option maxHeartbeats 4000000
namespace YY
open PySem PySem.Spec PyProof.Rows L2 XX
local macro_rules | `(tactic| walk_at "wp") => `(tactic| simp only [Int.zero_add, L2.start, LcEnd, List.append_nil, List.cons.injEq, List.cons_append, List.getElem?_cons_succ, List.getElem?_cons_zero, List.length_cons, List.length_nil, List.map_cons, List.map_nil, List.nil_append, List.replicate, List.replicate_succ, List.replicate_zero, List.set_cons_succ, List.set_cons_zero, Nat.reduceAdd, Nat.reduceSub, Option.some.injEq, StX.tMakeR, StX.tStar, V.bl.injEq, V.int.injEq, V.ref.injEq, V.str.injEq, V.ty.injEq, WE, and_assoc, and_false, and_true, bool_ite_false, bool_ite_true, cxOf_K, cxOf_noxK, dec_ite, decide_eq_true_eq, exists_and_left, exists_and_right, exists_const, exists_eq_left, exists_eq_left', false_and, false_or, gCons, gName, gNil, gSub, gTup, iEnumA, iItems, iKeys, iList, iRng1, iRng2, iStr, iTup, iZipB, ite_false, ite_true, ndec_ite, or_false, rAppend, rCat, rCatT, rEq, rEqI, rEqK, rEqV, rExt2, rI, rI0, rIn, rInRg, rIndex, rIsD, rIsE, rIsE2, rIxD, rIxL, rIxS, rIxT, rLenI, rLenK, rListStr, rMax, rMaxDef, rSetIM, rEqT, sFldAug, rAdd, rMin, rMulS, rNe, rNeDA, rNeV, rRange1, rRep, rRepA, rReprE, rReprI, rSetD, rSetI, rSetL, rSlL, rSlT, rSortedSet, rU, reduceCtorEq, reduceIte, sFld, tAnd, tAndV, tAsg, tAug, tB, tBM, tBM0, tC, tCB, tCKw, tDGetT, tCall, tCallS, tChain, tCons, tDGet, tDIn, tDNewK, tDNotIn, tDcT_eq, tDc_eq, tDisp, tDrop, tErr, tFld, tFor_eq, tIf, tIfS, tIxI, tLc2_eq, tLc_eq, tLenSetS, tLock, tLockE, tLst, tLstRg, tM1, tMakeRS, tMakeS, tMakeV, tMakeVS, tMeth, tMethX, tMkO, tMulA, tMulD, tNext, tNil, tNoPart, tNot, tNotV, tOp, tOpI, tOpR, tOr, tOrV, tOst, tPairs, tPar, tPar3, tPart, tRet, tRetN, tRevT, tRg2, tSMeth, tSeq, tSl, tTest, tTup, tUn, tVar, tVeI, tXf, tYes, true_and, wAs, wMA, wipe, rSum])
/-! ### _write_while, _write_block, lowered_rows -/
theorem take_sum : ∀ {ns : List Nat} {i r : Nat}, ns[i]? = some r → (ns.take i).sum + r ≤ ns.sum
  | [], _, _, h => by simp at h
  | n :: ns, 0, r, h => by
    cases h
    rw [List.take_zero, List.sum_cons]
    show 0 + n ≤ _
    omega
  | n :: ns, i + 1, r, h => by
    rw [List.getElem?_cons_succ] at h
    have := take_sum h
    rw [List.take_succ_cons, List.sum_cons, List.sum_cons]
    omega
section
variable {P : Program} {w : World} {K : PySem.W.Frag} {mg : Str → Option Value} {base : Heap}
theorem scWWh : FnScope ["rows", "statement", "_", "word", "value", "block", "here", "join"] ["rows", "statement"] (defScope sWriteWh) := ⟨rfl, rfl, rfl, by decide +kernel, rfl, by decide +kernel, by decide +kernel⟩
theorem c_writeWh {l k : Nat} (D : Def K mg "_write_while" sWriteWh ["rows", "statement"]) (T : Bl2 mg) (cM : FnC P w K mg base CX0 k "rows_of" ["statement"] (spRowsOf K l)) (cB : FnC P w K mg base CX0 k "_write_block" ["rows", "block", "loop", "behind"] (spWB K l)) : FnC P w K mg base CX0 (k + 1) "_write_while" ["rows", "statement"] (spWWh K l) := by
  refine D.ok scWWh (fun vs H Q E h => ?_) (fun f cdv A outer s H vs Q E hr h => ?_)
  · obtain ⟨_, _, _, _, _, _, _, _, _, _, _, rfl, _⟩ := h
    rfl
  · obtain ⟨ra, xs, x, rs, size, l', n, a, b, p, rfl, rfl, hra, hx, hl, hset, hp, hlen, hQ⟩ := h
    have sc := scWWh
    refine ⟨_, (pss_cut (ps_asg (pv 1) (pg_tup (by rfl) (pgs_cons (pg_name (i := 2) sc.nd rfl (Or.inl rfl)) (pgs_cons (pg_name (i := 3) sc.nd rfl (Or.inl rfl)) (pgs_cons (pg_name (i := 4) sc.nd rfl (Or.inl rfl)) (pgs_cons (pg_name (i := 5) sc.nd rfl (Or.inl rfl)) pgs_nil))))))
      (pss_cons (ps_set (i := 6) sc.nd rfl (Or.inl rfl) (pe_callB call_len_seq (by rfl) T.n_len (by decide +kernel) (pa_cons (pv 0) pa_nil)))
      (pss_cut (ps_set (i := 7) sc.nd rfl (Or.inl rfl) (pe_op op_add (pv 6) (pe_c cM hr rfl (pa_cons (pv 1) pa_nil))))
      (pss_cut (ps_expr (pe_bm PySem.F.plainAttrs_list PySem.F.slot_list_append PySem.F.type_list_append mt_append (pv 0) (pa_cons (pe_tup (pa_cons pe_str (pa_cons (pv 3) (pa_cons (pv 4) (pa_cons (pe_op op_add (pv 6) pe_int) (pa_cons (pv 7) pa_nil)))))) pa_nil)))
      (pss_cut (ps_expr (pe_bm PySem.F.plainAttrs_list PySem.F.slot_list_append PySem.F.type_list_append mt_append (pv 0) (pa_cons (pe_tup (pa_cons pe_str (pa_cons (pv 7) pa_nil))) pa_nil)))
      (pss_cut (ps_expr (pe_c cB hr rfl (pa_cons (pv 0) (pa_cons (pv 5) (pa_cons (pv 6) (pa_cons (pv 7) pa_nil))))))
      (pss_one (ps_expr (pe_bm PySem.F.plainAttrs_list PySem.F.slot_list_append PySem.F.type_list_append mt_append (pv 0) (pa_cons (pe_tup (pa_cons pe_str (pa_cons (pv 6) pa_nil))) pa_nil)))))))))), ?_⟩
    have hz := sizeLine_eq
    obtain ⟨xa, va, vb, vp, rfl, hs, ha, hb, hvp⟩ : ∃ xa va vb vp, x = .ref xa ∧ SqT K (del H ra) xa [.str "while", va, vb, vp] ∧ Dp K (del H ra) va a ∧ Dp K (del H ra) vb b ∧ Dp K (del H ra) vp p := by
      cases hx with
      | tup h1 h2 =>
        cases h2 with
        | cons h3 h4 =>
          cases h3
          cases h4 with
          | cons h5 h6 =>
            cases h6 with
            | cons h7 h8 =>
              cases h8 with
              | cons h9 h10 =>
                cases h10
                exact ⟨_, _, _, _, rfl, h1, h5, h7, h9⟩
    obtain ⟨_, sm1⟩ := sm_tup hl
    obtain ⟨_, sm2⟩ := sms_cons sm1
    obtain ⟨_, sm3⟩ := sms_cons sm2
    obtain ⟨_, sm4⟩ := sms_cons sm3
    obtain ⟨smp, _⟩ := sms_cons sm4
    refine cut_hide (fun τ G => τ = [some (.ref ra), some (.ref xa), some (.str "while"), some va, some vb, some vp, none, none] ∧ G = H) (fun M' hM => ?_) ?_
    · walk_at "wp"
      exact ⟨_, Same.sqT del_sub hs, rfl, _, _, rfl, _, _, rfl, _, _, rfl, _, _, rfl, rfl, hM _ _ ⟨rfl, rfl⟩⟩
    rintro τ G ⟨rfl, rfl⟩
    walk_at "wp"
    refine ⟨_, .inl (SqL.of hra), ?_⟩
    refine cut_hide (fun τ F => τ = [some (.ref ra), some (.ref xa), some (.str "while"), some va, some vb, some vp, some (.int ((xs.length : Nat) : Int)), some (.int ((xs.length + (3 + n) : Nat) : Int))] ∧ Same G F) (fun M' hM => ?_) ?_
    · walk_at "wp"
      refine ⟨.ref xa, .tuple [.str "while", a, b, p], rs, size, false, 3 + n, rfl, dp_same del_sub _ _ hx, hl, .whil rfl hset hp, fun F s => ⟨_, rfl, ?_⟩⟩
      have e : ((xs.length : Nat) : Int) + ((3 + n : Nat) : Int) = ((xs.length + (3 + n) : Nat) : Int) := by omega
      rw [e]
      exact hM _ _ ⟨rfl, s⟩
    rintro τ F ⟨rfl, s1⟩
    have d1 := del_mono (p := ra) s1
    refine cut_hide (fun τ F3 => ∃ t, τ = [some (.ref ra), some (.ref xa), some (.str "while"), some va, some vb, some vp, some (.int ((xs.length : Nat) : Int)), some (.int ((xs.length + (3 + n) : Nat) : Int))] ∧ Same (del G ra) (del F3 ra) ∧ F3 ra = some (.lst (xs ++ [.ref t])) ∧ Dp K (del F3 ra) (.ref t) (ifR a b (xs.length + 2) (xs.length + (3 + n)))) (fun M' hM => ?_) ?_
    · walk_at "wp"
      have hra2 := s1 _ _ hra
      refine ⟨.inl ⟨rfl, _, SqL.of hra2⟩, by omega, fun t nt => ?_⟩
      obtain ⟨e1, e2, e3⟩ := app_step (o := .tup [V.str "if", va, vb, V.int (((xs.length : Nat) : Int) + 2), V.int ((xs.length + (3 + n) : Nat) : Int)]) (q := .lst (xs ++ [V.ref t])) hra2 nt
      have dd := d1.trans e2
      exact ⟨_, e1, by omega, hM _ _ ⟨t, rfl, dd, upd_same, .tup (SqT.of e3) (.cons (.str _) (.cons (dp_same dd _ _ ha) (.cons (dp_same dd _ _ hb) (.cons (.int _) (.cons (.int _) .nil)))))⟩⟩
    rintro τ F3 ⟨t1, rfl, d3, hra3, ht1⟩
    refine cut_hide (fun τ F4 => ∃ t2, τ = [some (.ref ra), some (.ref xa), some (.str "while"), some va, some vb, some vp, some (.int ((xs.length : Nat) : Int)), some (.int ((xs.length + (3 + n) : Nat) : Int))] ∧ Same (del G ra) (del F4 ra) ∧ F4 ra = some (.lst (xs ++ [.ref t1, .ref t2])) ∧ DpAll K (del F4 ra) [.ref t1, .ref t2] [ifR a b (xs.length + 2) (xs.length + (3 + n)), goR (xs.length + (3 + n))]) (fun M' hM => ?_) ?_
    · walk_at "wp"
      refine ⟨.inl ⟨rfl, _, SqL.of hra3⟩, by omega, fun t nt => ?_⟩
      obtain ⟨e1, e2, e3⟩ := app_step (o := .tup [V.str "go", V.int ((xs.length + (3 + n) : Nat) : Int)]) (q := .lst ((xs ++ [.ref t1]) ++ [V.ref t])) hra3 nt
      refine ⟨_, e1, by simp only [List.length_append, List.length_cons, List.length_nil]; omega, hM _ _ ⟨t, rfl, d3.trans e2, ?_, .cons (dp_same e2 _ _ ht1) (.cons (.tup (SqT.of e3) (.cons (.str _) (.cons (.int _) .nil))) .nil)⟩⟩
      rw [upd_same, List.append_assoc]
      rfl
    rintro τ F4 ⟨t2, rfl, d4, hra4, hd4⟩
    refine cut_hide (fun τ F5 => ∃ ys, τ = [some (.ref ra), some (.ref xa), some (.str "while"), some va, some vb, some vp, some (.int ((xs.length : Nat) : Int)), some (.int ((xs.length + (3 + n) : Nat) : Int))] ∧ Same (del G ra) (del F5 ra) ∧ F5 ra = some (.lst (xs ++ .ref t1 :: .ref t2 :: ys)) ∧ DpAll K (del F5 ra) (.ref t1 :: .ref t2 :: ys) (ifR a b (xs.length + 2) (xs.length + (3 + n)) :: goR (xs.length + (3 + n)) :: lowB rs size l' (xs.length + 2) (some xs.length) (some (xs.length + (3 + n))) p)) (fun M' hM => ?_) ?_
    · walk_at "wp"
      refine ⟨ra, _, vp, p, rs, size, true, n, some xs.length, some (xs.length + (3 + n)), rfl, hra4, dp_same d4 _ _ hvp, smp, hp, by rw [List.length_append]; show xs.length + 2 + n ≤ _; omega, fun F ys dF hF hys => hM _ _ ⟨ys, rfl, d4.trans dF, ?_, dps_app (dps_same dF _ _ hd4) ?_⟩⟩
      · rw [hF, List.append_assoc]
        rfl
      · rw [List.length_append] at hys
        exact hys
    rintro τ F5 ⟨ys, rfl, d5, hra5, hd5⟩
    walk_at "wp"
    have ly := dpAll_len hd5
    simp only [List.length_cons, low_len l' hp] at ly
    refine ⟨.inl ⟨rfl, _, SqL.of hra5⟩, by omega, fun t nt => ?_⟩
    obtain ⟨e1, e2, e3⟩ := app_step (o := .tup [V.str "go", V.int ((xs.length : Nat) : Int)]) (q := .lst ((xs ++ .ref t1 :: .ref t2 :: ys) ++ [V.ref t])) hra5 nt
    refine ⟨_, e1, by simp only [List.length_append, List.length_cons]; omega, hQ _ ((.ref t1 :: .ref t2 :: ys) ++ [.ref t]) (d5.trans e2) (by rw [upd_same, List.append_assoc]) ?_⟩
    exact dps_app (dps_same e2 _ _ hd5) (.cons (.tup (SqT.of e3) (.cons (.str _) (.cons (.int _) .nil))) .nil)
theorem scWB : FnScope ["rows", "block", "loop", "behind", "statement", "word"] ["rows", "block", "loop", "behind"] (defScope sWriteB) := ⟨rfl, rfl, rfl, by decide +kernel, rfl, by decide +kernel, by decide +kernel⟩
theorem c_writeB {l k : Nat} (D : Def K mg "_write_block" sWriteB ["rows", "block", "loop", "behind"]) (cI : FnC P w K mg base CX0 k "_write_if" ["rows", "statement", "loop", "behind"] (spWIf K l)) (cW : FnC P w K mg base CX0 k "_write_while" ["rows", "statement"] (spWWh K l)) : FnC P w K mg base CX0 (k + 1) "_write_block" ["rows", "block", "loop", "behind"] (spWB K (l + 1)) := by
  refine D.ok scWB (fun vs H Q E h => ?_) (fun f cdv A outer s H vs Q E hr h => ?_)
  · obtain ⟨_, _, _, _, _, _, _, _, _, _, rfl, _⟩ := h
    rfl
  · obtain ⟨ra, xs, x, d, rs, size, inl, n, lo, be, rfl, hra, hx, hl, hc, hlen, hQ⟩ := h
    have sc := scWB
    refine ⟨_, (pss_one (ps_for PassesOwn.never rfl (pi_tup (pv 1)) (pg_name (i := 4) sc.nd rfl (Or.inl rfl))
      (pss_cons (ps_set (i := 5) sc.nd rfl (Or.inl rfl) (pe_ix ix_tup (pv 4) pe_int (fun _ _ => rfl)))
      (pss_one (ps_if (pt_cmpR op_eq (pv 5) pe_str (nomark _)) (pss_one (ps_expr (pe_c cI hr rfl (pa_cons (pv 0) (pa_cons (pv 4) (pa_cons (pv 2) (pa_cons (pv 3) pa_nil))))))) (pss_one (ps_if (pt_cmpR op_eq (pv 5) pe_str (nomark _)) (pss_one (ps_expr (pe_c cW hr rfl (pa_cons (pv 0) (pa_cons (pv 4) pa_nil))))) (pss_one (ps_if (pt_cmpR op_eq (pv 5) pe_str (nomark _)) (pss_one (ps_expr (pe_bm PySem.F.plainAttrs_list PySem.F.slot_list_append PySem.F.type_list_append mt_append (pv 0) (pa_cons (pe_tup (pa_cons pe_str (pa_cons (pe_ix ix_tup (pv 4) pe_int (fun _ _ => rfl)) (pa_cons (pe_ix ix_tup (pv 4) pe_int (fun _ _ => rfl)) (pa_cons (pv 3) (pa_cons (pv 3) pa_nil)))))) pa_nil)))) (pss_one (ps_expr (pe_bm PySem.F.plainAttrs_list PySem.F.slot_list_append PySem.F.type_list_append mt_append (pv 0) (pa_cons (pe_ifExp (pt_cmpR op_eq (pv 5) pe_str (nomark _)) (pe_tup (pa_starK K rfl (pv 4) (pa_cons (pv 2) pa_nil))) (pv 4)) pa_nil))))))))))))), ?_⟩
    have hz := sizeLine_eq
    obtain ⟨ds, ns, rfl, hpn, rfl, hle⟩ := bl_inv hc
    rw [lowB_eq] at hQ
    obtain ⟨sm0, sm1⟩ := sm_tup hl
    have lp := paired_len' hpn
    obtain ⟨xa, vs, rfl, hs, hvs⟩ : ∃ xa vs, x = .ref xa ∧ SqT K (del H ra) xa vs ∧ DpAll K (del H ra) vs ds := by
      cases hx with
      | tup h1 h2 => exact ⟨_, _, rfl, h1, h2⟩
    have lx := dpAll_len hvs
    walk_at "wp"
    refine ⟨⟨_, Same.sqT del_sub hs⟩, ?_⟩
    refine loop_it (walk_tup (xs := vs)) (fun i τ F => ∃ u4 u5 ys, τ = [some (.ref ra), some (.ref xa), some (optN lo), some (optN be), u4, u5] ∧ Same (del H ra) (del F ra) ∧ F ra = some (.lst (xs ++ ys)) ∧ DpAll K (del F ra) ys (lowBs (fun s d => lowSt (cnOf rs size l) (lbOf rs size l) s lo be d) xs.length (ds.take i)) ∧ ys.length = (ns.take i).sum) ⟨_, _, [], rfl, Same.refl _, by rw [List.append_nil]; exact hra, .nil, rfl⟩ (fun i τ F _ h => by obtain ⟨_, _, _, _, s, _⟩ := h; exact Same.sqT (s.trans del_sub) hs) ?_ ?_
    · rintro i v τ F1 F2 hi ⟨u4, u5, ys, rfl, dF, hraF, hys, ly⟩ ⟨rfl, hv⟩
      obtain ⟨d, hdi, hvd⟩ := dpAll_get hvs hv
      obtain ⟨r, hr1, hst⟩ := paired_at hpn hdi
      have hsum := take_sum hr1
      have smd := sms_mem sm1 (List.mem_of_getElem? hdi)
      have hvF := dp_same dF _ _ hvd
      have next : ∀ {F3 : Hp} {zs : List V}, Same (del F2 ra) (del F3 ra) → F3 ra = some (.lst (xs ++ ys ++ zs)) → DpAll K (del F3 ra) zs (lowSt (cnOf rs size l) (lbOf rs size l) (xs ++ ys).length lo be d) → Same (del H ra) (del F3 ra) ∧ ∃ ys, F3 ra = some (.lst (xs ++ ys)) ∧ DpAll K (del F3 ra) ys (lowBs (fun s d => lowSt (cnOf rs size l) (lbOf rs size l) s lo be d) xs.length (ds.take (i + 1))) ∧ ys.length = (ns.take (i + 1)).sum := fun {F3 zs} dz hF hzs => by
        have lz := dpAll_len hzs
        rw [st_len (fun l' _ i d n s lo be h => low_len l' h) hst] at lz
        have ey := dpAll_len hys
        refine ⟨dF.trans dz, ys ++ zs, by rw [hF, List.append_assoc], ?_, ?_⟩
        · rw [List.take_add_one, hdi]
          show DpAll K (del F3 ra) (ys ++ zs) (lowBs _ xs.length (ds.take i ++ [d]))
          rw [lowBs_snoc, ← ey]
          rw [List.length_append] at hzs
          exact dps_app (dps_same dz _ _ hys) hzs
        · rw [List.length_append, lz, ly, List.take_add_one, hr1, List.sum_append]
          simp
      have lxy : (xs ++ ys).length + r ≤ 1000 := by
        rw [List.length_append]
        omega
      walk_at "wp"
      have open_ : ∀ {z : Str} {ps : List PyData}, Dp K (del F2 ra) v (.tuple (.str z :: ps)) → ∃ p ws, v = .ref p ∧ SqT K (del F2 ra) p (.str z :: ws) ∧ DpAll K (del F2 ra) ws ps := fun {z ps} h => by
        cases h with
        | tup h1 h2 =>
          cases h2 with
          | cons h3 h4 =>
            cases h3
            exact ⟨_, _, rfl, h1, h4⟩
      cases hst with
      | @plain z ps hz1 hz2 =>
        obtain ⟨p, ws, rfl, hp1, hp2⟩ := open_ hvF
        have key : ∀ y ∈ plainS, y ≠ "if" ∧ y ≠ "while" ∧ y ≠ "leave" ∧ y ≠ "group" := by decide +kernel
        obtain ⟨k1, k2, k3, k4⟩ := key z hz1
        have ns' : ∀ {y : Str}, z ≠ y → ¬ (V.str z = V.str y) := fun h e => h (V.str.inj e)
        refine ⟨p, rfl, _, Same.sqT del_sub hp1, _, at_of (j := 0) rfl rfl, rfl, Eq.mpr (if_neg (ns' k1)) ⟨rfl, Eq.mpr (if_neg (ns' k2)) ⟨rfl, Eq.mpr (if_neg (ns' k3)) ?_⟩⟩⟩
        refine ⟨.inl ⟨rfl, _, SqL.of hraF⟩, rfl, Eq.mpr (if_neg (ns' k4)) ⟨_, hraF, by omega, ⟨_, rfl⟩, ⟨_, rfl⟩, ?_⟩⟩
        have ed := del_upd (p := ra) (H := F2) (o := .lst ((xs ++ ys) ++ [V.ref p]))
        refine next (by rw [ed]; exact Same.refl _) upd_same ?_
        rw [ed, low_plain hz1]
        exact .cons hvF .nil
      | @group p1 hp0 =>
        obtain ⟨p, ws, rfl, hp1, hp2⟩ := open_ hvF
        refine ⟨p, rfl, _, Same.sqT del_sub hp1, _, at_of (j := 0) rfl rfl, rfl, Eq.mpr (if_neg (by decide)) ⟨rfl, Eq.mpr (if_neg (by decide)) ⟨rfl, Eq.mpr (if_neg (by decide)) ?_⟩⟩⟩
        have lw : ws.length = 1 := dpAll_len hp2
        refine ⟨.inl ⟨rfl, _, SqL.of hraF⟩, rfl, Eq.mpr (if_pos rfl) ⟨p, rfl, _, .inl (Same.sqT del_sub hp1), by simp only [List.length_append, List.length_cons, lw, List.length_nil]; omega, fun t nt => ?_⟩⟩
        obtain ⟨e1, e2, e3⟩ := app_step (o := .tup ((.str "group" :: ws) ++ [optN lo])) (q := .lst ((xs ++ ys) ++ [V.ref t])) hraF nt
        exact ⟨_, e1, by omega, ⟨_, rfl⟩, ⟨_, rfl⟩, next e2 upd_same (.cons (.tup (SqT.of e3) (dps_app (.cons (.str _) (dps_same e2 _ _ hp2)) (.cons (dp_optN _) .nil))) .nil)⟩
      | @leave p1 p2 hi1 hset =>
        obtain ⟨p, ws, rfl, hp1, hp2⟩ := open_ hvF
        obtain ⟨v1, v2, rfl, h1, h2⟩ : ∃ v1 v2, ws = [v1, v2] ∧ Dp K (del F2 ra) v1 p1 ∧ Dp K (del F2 ra) v2 p2 := by
          cases hp2 with
          | cons a b =>
            cases b with
            | cons b c =>
              cases c
              exact ⟨_, _, rfl, a, b⟩
        have hsq := Same.sqT del_sub hp1
        refine ⟨p, rfl, _, hsq, _, at_of (j := 0) rfl rfl, rfl, Eq.mpr (if_neg (by decide)) ⟨rfl, Eq.mpr (if_neg (by decide)) ⟨rfl, Eq.mpr (if_pos rfl) ⟨.inl ⟨rfl, _, SqL.of hraF⟩, p, rfl, _, hsq, _, at_of (j := 1) rfl rfl, p, rfl, _, hsq, _, at_of (j := 2) rfl rfl, by omega, fun t nt => ?_⟩⟩⟩⟩
        obtain ⟨e1, e2, e3⟩ := app_step (o := .tup [V.str "if", v1, v2, optN be, optN be]) (q := .lst ((xs ++ ys) ++ [V.ref t])) hraF nt
        exact ⟨_, e1, by omega, ⟨_, rfl⟩, ⟨_, rfl⟩, next e2 upd_same (.cons (.tup (SqT.of e3) (.cons (.str _) (.cons (dp_same e2 _ _ h1) (.cons (dp_same e2 _ _ h2) (.cons (dp_optN _) (.cons (dp_optN _) .nil)))))) .nil)⟩
      | @iff l' n m p1 p2 x y hl1 hset h3 h4 =>
        subst hl1
        obtain ⟨p, ws, rfl, hp1, hp2⟩ := open_ hvF
        refine ⟨p, rfl, _, Same.sqT del_sub hp1, _, at_of (j := 0) rfl rfl, rfl, Eq.mpr (if_pos rfl) ?_⟩
        refine ⟨ra, _, _, rs, size, l', n, m, lo, be, p1, p2, x, y, rfl, rfl, hraF, hvF, smd, h3, h4, lxy, fun G zs dG hG hzs => ⟨⟨_, rfl⟩, ⟨_, rfl⟩, next dG hG ?_⟩⟩
        show DpAll K (del G ra) zs (lowIf (lowB rs size l') _ lo be ((cntB rs size l' false x).getD 0) ((cntB rs size l' false y).getD 0) p1 p2 x y)
        rw [h3, h4]
        exact hzs
      | @whil l' n p1 p2 x hl1 hset h3 =>
        subst hl1
        obtain ⟨p, ws, rfl, hp1, hp2⟩ := open_ hvF
        refine ⟨p, rfl, _, Same.sqT del_sub hp1, _, at_of (j := 0) rfl rfl, rfl, Eq.mpr (if_neg (by decide)) ⟨rfl, Eq.mpr (if_pos rfl) ?_⟩⟩
        refine ⟨ra, _, _, rs, size, l', n, p1, p2, x, rfl, rfl, hraF, hvF, smd, hset, h3, lxy, fun G zs dG hG hzs => ⟨⟨_, rfl⟩, ⟨_, rfl⟩, next dG hG ?_⟩⟩
        show DpAll K (del G ra) zs (lowWh (lowB rs size l') _ ((cntB rs size l' true x).getD 0) p1 p2 x)
        rw [h3]
        exact hzs
    · rintro τ F ⟨u4, u5, ys, rfl, dF, hraF, hys, ly⟩
      rw [lx, List.take_length] at hys
      exact hQ F ys dF hraF hys
def spLowered (K : PySem.W.Frag) : Sp := fun vs H Q _ => ∃ (x : V) (d : PyData) (rs : List Str) (size : Int) (n : Nat), vs = [x] ∧ Dp K H x d ∧ sm d = true ∧ cntB rs size 3 false d = some n ∧ ∀ ra G ys, Same H G → G ra = some (.lst ys) → DpAll K G ys (lowB rs size 3 0 none none d) → Q (.ref ra) G
theorem scLowered : FnScope ["block", "rows"] ["block"] (defScope sLowered) := ⟨rfl, rfl, rfl, by decide +kernel, rfl, by decide +kernel, by decide +kernel⟩
theorem c_lowered {k : Nat} (D : Def K mg "lowered_rows" sLowered ["block"]) (cB : FnC P w K mg base CX0 k "_write_block" ["rows", "block", "loop", "behind"] (spWB K 4)) : FnC P w K mg base CX0 (k + 1) "lowered_rows" ["block"] (spLowered K) := by
  refine D.ok scLowered (fun vs H Q E h => ?_) (fun f cdv A outer s H vs Q E hr h => ?_)
  · obtain ⟨_, _, _, _, _, rfl, _⟩ := h
    rfl
  · obtain ⟨x, d, rs, size, n, rfl, hx, hl, hc, hQ⟩ := h
    have sc := scLowered
    refine ⟨_, (pss_cons (ps_set (i := 1) sc.nd rfl (Or.inl rfl) (pe_lst pa_nil))
      (pss_cons (ps_expr (pe_c cB hr rfl (pa_cons (pv 1) (pa_cons (pv 0) (pa_cons pe_non (pa_cons pe_non pa_nil))))))
      (pss_one (ps_ret (pv 1))))), ?_⟩
    have hz := sizeLine_eq
    walk_at "wp"
    refine ⟨Nat.zero_le _, fun ra nra => ?_⟩
    have hle : n ≤ 24 := by
      obtain ⟨_, _, _, _, _, h⟩ := bl_inv hc
      exact h
    have dH : Same H (del (upd H ra (.lst [])) ra) := fun b o h => by
      have ne : b ≠ ra := fun e => by
        rw [e, nra] at h
        cases h
      rw [del_ne ne, upd_ne ne]
      exact h
    refine ⟨ra, [], x, d, rs, size, false, n, none, none, rfl, upd_same, dp_same dH _ _ hx, hl, hc, by show 0 + n ≤ _; omega, fun G ys dG hG hys => ?_⟩
    exact hQ ra G ys ((dH.trans dG).trans del_sub) hG (dps_same del_sub _ _ hys)
end

end YY

set_option maxRecDepth 100000
set_option maxHeartbeats 4000000
namespace YY
open PySem PySem.Spec PyProof.Rows L2 XX
local macro_rules | `(tactic| walk_at "wp") => `(tactic| simp only [Int.zero_add, L2.start, LcEnd, List.append_nil, List.cons.injEq, List.cons_append, List.getElem?_cons_succ, List.getElem?_cons_zero, List.length_cons, List.length_nil, List.map_cons, List.map_nil, List.nil_append, List.replicate, List.replicate_succ, List.replicate_zero, List.set_cons_succ, List.set_cons_zero, Nat.reduceAdd, Nat.reduceSub, Option.some.injEq, StX.tMakeR, StX.tStar, V.bl.injEq, V.int.injEq, V.ref.injEq, V.str.injEq, V.ty.injEq, WE, and_assoc, and_false, and_true, bool_ite_false, bool_ite_true, cxOf_K, cxOf_noxK, dec_ite, decide_eq_true_eq, exists_and_left, exists_and_right, exists_const, exists_eq_left, exists_eq_left', false_and, false_or, gCons, gName, gNil, gSub, gTup, iEnumA, iItems, iKeys, iList, iRng1, iRng2, iStr, iTup, iZipB, ite_false, ite_true, ndec_ite, or_false, rAppend, rCat, rCatT, rEq, rEqI, rEqK, rEqV, rExt2, rI, rI0, rIn, rInRg, rIndex, rIsD, rIsE, rIsE2, rIxD, rIxL, rIxS, rIxT, rLenI, rLenK, rListStr, rMax, rMaxDef, rSetIM, rEqT, sFldAug, rAdd, rMin, rMulS, rNe, rNeDA, rNeV, rRange1, rRep, rRepA, rReprE, rReprI, rSetD, rSetI, rSetL, rSlL, rSlT, rSortedSet, rU, reduceCtorEq, reduceIte, sFld, tAnd, tAndV, tAsg, tAug, tB, tBM, tBM0, tC, tCB, tCKw, tDGetT, tCall, tCallS, tChain, tCons, tDGet, tDIn, tDNewK, tDNotIn, tDcT_eq, tDc_eq, tDisp, tDrop, tErr, tFld, tFor_eq, tIf, tIfS, tIxI, tLc2_eq, tLc_eq, tLenSetS, tLock, tLockE, tLst, tLstRg, tM1, tMakeRS, tMakeS, tMakeV, tMakeVS, tMeth, tMethX, tMkO, tMulA, tMulD, tNext, tNil, tNoPart, tNot, tNotV, tOp, tOpI, tOpR, tOr, tOrV, tOst, tPairs, tPar, tPar3, tPart, tRet, tRetN, tRevT, tRg2, tSMeth, tSeq, tSl, tTest, tTup, tUn, tVar, tVeI, tXf, tYes, true_and, wAs, wMA, wipe, rSum])
/-! ### the rows of a block are good rows -/
/-- a part of a good row: none, a word or a number -/
def GdP (d : PyData) : Prop := d = .none ∨ (∃ z, d = .str z ∧ wordS z = true) ∨ ∃ n : Nat, d = .int (n : Nat) ∧ n < 100
theorem wordS_iff {z : Str} (h : wordS z = true) : 1 ≤ z.length ∧ z.length ≤ 8 ∧ ∀ c ∈ z.cps.toList, 97 ≤ c ∧ c ≤ 122 := by
  unfold wordS at h
  rw [Bool.and_eq_true, Bool.and_eq_true, decide_eq_true_eq, decide_eq_true_eq] at h
  exact ⟨h.1.1, h.1.2, fun c hc => of_decide_eq_true (List.all_eq_true.1 h.2 c hc)⟩
theorem btw_gd {d : PyData} {hi : Int} (h : btw d 0 hi = true) (hh : hi < 100) : ∃ n : Nat, d = .int (n : Nat) ∧ (n : Int) ≤ hi := by
  obtain ⟨i, rfl, h1, h2⟩ := btw_int h
  exact ⟨i.toNat, by congr 1; omega, by omega⟩
theorem part_gd {rs : List Str} {size en : Int} {p : PyData} {name : Str} (hr : ∀ z ∈ rs, wordS z = true) (hs : size ≤ 3) (he : en ≤ 24) (h : partB rs size en p name = true) : GdP p := by
  unfold partB at h
  split at h
  · cases p with
    | str z => exact .inr (.inl ⟨z, rfl, hr z (of_decide_eq_true h)⟩)
    | _ => cases h
  · split at h
    · obtain ⟨n, rfl, hn⟩ := btw_gd h (by omega)
      exact .inr (.inr ⟨n, rfl, by omega⟩)
    · split at h
      · obtain ⟨n, rfl, hn⟩ := btw_gd h (by omega)
        exact .inr (.inr ⟨n, rfl, by omega⟩)
      · split at h
        · by_cases e : p = .none
          · exact .inl e
          · have h' : btw p 0 (en - 1) = true := by
              cases p with
              | none => exact absurd rfl e
              | _ => exact h
            obtain ⟨n, rfl, hn⟩ := btw_gd h' (by omega)
            exact .inr (.inr ⟨n, rfl, by omega⟩)
        · cases p with
          | str z => exact .inr (.inl ⟨z, rfl, h⟩)
          | _ => cases h
theorem parts_gd {rs : List Str} {size en : Int} (hr : ∀ z ∈ rs, wordS z = true) (hs : size ≤ 3) (he : en ≤ 24) : ∀ {ps : List PyData} {ns : List Str}, partsB rs size en ps ns = true → (∀ p ∈ ps, GdP p) ∧ ps.length = ns.length
  | [], [], _ => ⟨fun _ h => (nomatch h), rfl⟩
  | p :: ps, n :: ns, h => by
    rw [partsB, Bool.and_eq_true] at h
    obtain ⟨c, d⟩ := parts_gd hr hs he h.2
    refine ⟨fun q hq => ?_, congrArg (· + 1) d⟩
    rcases List.mem_cons.1 hq with rfl | hq
    · exact part_gd hr hs he h.1
    · exact c q hq
theorem gd_sml {p : PyData} (h : GdP p) : Sml 0 100 p := by
  rcases h with rfl | ⟨z, rfl, h⟩ | ⟨n, rfl, h⟩
  · exact sml_non
  · exact word_sml (wordS_iff h)
  · exact sml_i (by omega) (by omega)
theorem form_few {k : Str} {ns : List Str} (h : formOf k = some ns) : wordS k = true ∧ ns.length ≤ 4 := by
  unfold formOf at h
  obtain ⟨e, he, rfl⟩ := Option.map_eq_some_iff.1 h
  have hm := List.mem_of_find?_eq_some he
  have hk : e.1 = k := by
    have := List.find?_some he
    exact eq_of_beq this
  subst hk
  have key : ∀ e ∈ formTab, wordS e.1 = true ∧ e.2.length ≤ 4 := by decide +kernel
  exact key e hm
theorem row_sml2 {rs : List Str} {size en : Int} {d : PyData} (hr : ∀ z ∈ rs, wordS z = true) (hs : size ≤ 3) (he : en ≤ 24) (h : rowB rs size en d = true) : Sml 2 2000 d := by
  obtain ⟨k, ps, rfl⟩ := rowB_str h
  cases hf : formOf k with
  | none =>
    have e : rowB rs size en (.tuple (.str k :: ps)) = (match formOf k with
      | some ns => partsB rs size en ps ns
      | none => false) := rfl
    rw [e, hf] at h
    cases h
  | some ns =>
    obtain ⟨a, b⟩ := parts_gd hr hs he (rowB_parts hf h)
    obtain ⟨c1, c2⟩ := form_few hf
    refine (Sml.tup (m := 5) (k := 0) (n := 100) (fun p hp => ?_) (by rw [List.length_cons]; omega) (by decide)).mono (by decide) (by decide)
    rcases List.mem_cons.1 hp with rfl | hp
    · exact word_sml (wordS_iff c1)
    · exact gd_sml (a p hp)
theorem part_en {rs : List Str} {size en : Int} {p : PyData} {name : Str} (h : name ≠ "to" ∧ name ≠ "anchor") : partB rs size en p name = partB rs size 0 p name := by
  unfold partB
  by_cases c1 : name = "place"
  · rw [if_pos c1, if_pos c1]
  · rw [if_neg c1, if_neg c1]
    by_cases c2 : name = "value"
    · rw [if_pos c2, if_pos c2]
    · rw [if_neg c2, if_neg c2, if_neg h.1, if_neg h.1, if_neg h.2, if_neg h.2]
theorem parts_en {rs : List Str} {size en : Int} : ∀ {ps : List PyData} {ns : List Str}, (∀ n ∈ ns, n ≠ "to" ∧ n ≠ "anchor") → partsB rs size en ps ns = partsB rs size 0 ps ns
  | [], [], _ => rfl
  | [], _ :: _, _ => rfl
  | _ :: _, [], _ => rfl
  | p :: ps, n :: ns, h => by
    rw [partsB, partsB, part_en (h n List.mem_cons_self), parts_en fun m hm => h m (List.mem_cons_of_mem _ hm)]
theorem plain_en {rs : List Str} {size en : Int} {z : Str} {ps : List PyData} (hz : z ∈ plainS) (h : rowZ rs size (.tuple (.str z :: ps)) = true) : rowB rs size en (.tuple (.str z :: ps)) = true := by
  have key : ∀ y ∈ plainS, ∃ ns, formOf y = some ns ∧ ∀ n ∈ ns, n ≠ "to" ∧ n ≠ "anchor" := by
    intro y hy
    have k2 : ∀ y ∈ plainS, (match formOf y with
      | some ns => ns.all fun n => decide (n ≠ "to") && decide (n ≠ "anchor")
      | none => false) = true := by decide +kernel
    have := k2 y hy
    cases hf : formOf y with
    | none =>
      rw [hf] at this
      cases this
    | some ns =>
      rw [hf] at this
      refine ⟨ns, rfl, fun n hn => ?_⟩
      have q := List.all_eq_true.1 this n hn
      rw [Bool.and_eq_true, decide_eq_true_eq, decide_eq_true_eq] at q
      exact q
  obtain ⟨ns, hf, hn⟩ := key z hz
  have e : ∀ e', rowB rs size e' (.tuple (.str z :: ps)) = (match formOf z with
      | some ns => partsB rs size e' ps ns
      | none => false) := fun _ => rfl
  have h' : rowB rs size 0 (.tuple (.str z :: ps)) = true := h
  rw [e, hf] at h' ⊢
  exact (parts_en hn).trans h'
theorem set_parts {rs : List Str} {size : Int} {a b : PyData} (h : rowZ rs size (.tuple [.str "set", a, b]) = true) : placeB rs a = true ∧ btw b 0 (size - 1) = true := by
  have h' := rowB_parts (ns := ["place", "value"]) (by decide +kernel) (show rowB rs size 0 (.tuple [.str "set", a, b]) = true from h)
  rw [partsB, partsB, Bool.and_eq_true, Bool.and_eq_true] at h'
  refine ⟨h'.1, ?_⟩
  have := h'.2.1
  rw [partB_val] at this
  exact this
theorem to_btw {n : Nat} {en : Int} (h : (n : Int) ≤ en) : btw (.int (n : Nat)) 0 en = true := by
  show (decide (0 ≤ (n : Int)) && decide ((n : Int) ≤ en)) = true
  rw [decide_eq_true (by omega), decide_eq_true h]
  rfl
theorem ifR_good {rs : List Str} {size : Int} {N t j : Nat} {a b : PyData} (h : rowZ rs size (.tuple [.str "set", a, b]) = true) (ht : t ≤ N) (hj : j ≤ N) : rowB rs size (N : Nat) (ifR a b t j) = true := by
  obtain ⟨h1, h2⟩ := set_parts h
  show partsB rs size (N : Nat) [a, b, .int (t : Nat), .int (j : Nat)] ["place", "value", "to", "to"] = true
  rw [partsB, partsB, partsB, partsB, partB_val, partB_to, partB_to, h2, to_btw (by omega), to_btw (by omega)]
  have e : partB rs size (N : Nat) a "place" = placeB rs a := rfl
  rw [e, h1]
  rfl
theorem goR_good {rs : List Str} {size : Int} {N t : Nat} (ht : t ≤ N) : rowB rs size (N : Nat) (goR t) = true := by
  show partsB rs size (N : Nat) [.int (t : Nat)] ["to"] = true
  rw [partsB, partB_to, to_btw (by omega)]
  rfl
section
variable {rs : List Str} {size : Int} {N : Nat}
def OkLo (N : Nat) (lo be : Option Nat) (inl : Bool) : Prop := (∀ b, lo = some b → b < N) ∧ (∀ b, be = some b → b ≤ N) ∧ (inl = true → ∃ b, be = some b)
theorem lowBs_good {l : Nat} {inl : Bool} {f : Nat → PyData → List PyData} (hl : ∀ s d r, StC rs size l inl d r → (f s d).length = r) (hg : ∀ s d r, StC rs size l inl d r → s + r ≤ N → ∀ y ∈ f s d, rowB rs size (N : Nat) y = true) : ∀ {ds : List PyData} {ns : List Nat}, Paired (fun d r => StC rs size l inl d r) ds ns → ∀ s, s + ns.sum ≤ N → ∀ y ∈ lowBs f s ds, rowB rs size (N : Nat) y = true
  | _, _, .nil, s, _, y, hy => (nomatch hy)
  | d :: ds, n :: ns, .cons h t, s, hs, y, hy => by
    rw [List.sum_cons] at hs
    have hy' : y ∈ f s d ++ lowBs f (s + (f s d).length) ds := hy
    rcases List.mem_append.1 hy' with hy | hy
    · exact hg s d n h (by omega) y hy
    · rw [hl s d n h] at hy
      exact lowBs_good hl hg t _ (by omega) y hy
theorem st_good {l : Nat} (hb : ∀ l', l = l' + 1 → ∀ i d n s lo be, cntB rs size l' i d = some n → OkLo N lo be i → s + n ≤ N → ∀ y ∈ lowB rs size l' s lo be d, rowB rs size (N : Nat) y = true) {inl : Bool} {d : PyData} {r s : Nat} {lo be : Option Nat} (ok : OkLo N lo be inl) (h : StC rs size l inl d r) (hs : s + r ≤ N) : ∀ y ∈ lowSt (cnOf rs size l) (lbOf rs size l) s lo be d, rowB rs size (N : Nat) y = true := by
  obtain ⟨o1, o2, o3⟩ := ok
  cases h with
  | plain h1 h2 =>
    rw [low_plain h1]
    intro y hy
    rw [List.mem_singleton.1 hy]
    exact plain_en h1 h2
  | @group p h1 =>
    intro y hy
    rw [List.mem_singleton.1 (show y ∈ [PyData.tuple [.str "group", p, optD lo]] from hy)]
    show partsB rs size (N : Nat) [p, optD lo] ["word", "anchor"] = true
    rw [partsB, partsB, partB_word, partB_anchor, h1]
    cases lo with
    | none => rfl
    | some b =>
      have := o1 b rfl
      show (true && (btw (.int (b : Nat)) 0 ((N : Int) - 1) && true)) = true
      rw [to_btw (by omega)]
      rfl
  | @leave a b h1 h2 =>
    obtain ⟨c, rfl⟩ := o3 h1
    have := o2 c rfl
    intro y hy
    rw [List.mem_singleton.1 (show y ∈ [ifR a b c c] from hy)]
    exact ifR_good h2 this this
  | @iff l' n m a b x y h1 h2 h3 h4 =>
    subst h1
    show ∀ z ∈ lowIf (lowB rs size l') s lo be ((cntB rs size l' false x).getD 0) ((cntB rs size l' false y).getD 0) a b x y, rowB rs size (N : Nat) z = true
    rw [h3, h4]
    show ∀ z ∈ lowIf (lowB rs size l') s lo be n m a b x y, rowB rs size (N : Nat) z = true
    unfold lowIf
    have ok' : OkLo N lo be false := ⟨o1, o2, fun h => nomatch h⟩
    intro z hz
    rcases List.mem_cons.1 hz with rfl | hz
    · exact ifR_good h2 (by omega) (by omega)
    · rcases List.mem_append.1 hz with hz | hz
      · exact hb l' rfl _ _ _ _ _ _ h4 ok' (by omega) z hz
      · rcases List.mem_cons.1 hz with rfl | hz
        · exact goR_good (by omega)
        · exact hb l' rfl _ _ _ _ _ _ h3 ok' (by omega) z hz
  | @whil l' n a b x h1 h2 h3 =>
    subst h1
    show ∀ z ∈ lowWh (lowB rs size l') s ((cntB rs size l' true x).getD 0) a b x, rowB rs size (N : Nat) z = true
    rw [h3]
    show ∀ z ∈ lowWh (lowB rs size l') s n a b x, rowB rs size (N : Nat) z = true
    unfold lowWh
    intro z hz
    rcases List.mem_cons.1 hz with rfl | hz
    · exact ifR_good h2 (by omega) (by omega)
    · rcases List.mem_cons.1 hz with rfl | hz
      · exact goR_good (by omega)
      · rcases List.mem_append.1 hz with hz | hz
        · exact hb l' rfl _ _ _ _ _ _ h3 ⟨fun b e => by cases e; omega, fun b e => by cases e; omega, fun _ => ⟨_, rfl⟩⟩ (by omega) z hz
        · rw [List.mem_singleton.1 hz]
          exact goR_good (by omega)
theorem low_good : ∀ (l : Nat) {i : Bool} {d : PyData} {n s : Nat} {lo be : Option Nat}, cntB rs size l i d = some n → OkLo N lo be i → s + n ≤ N → ∀ y ∈ lowB rs size l s lo be d, rowB rs size (N : Nat) y = true
  | 0, i, d, n, s, lo, be, h, ok, hs => by
    obtain ⟨ds, ns, rfl, hp, rfl, _⟩ := bl_inv h
    rw [lowB_eq]
    exact lowBs_good (fun s d r hr => st_len (fun l' e => by cases e) hr) (fun s d r hr hs => st_good (fun l' e => by cases e) ok hr hs) hp s hs
  | l + 1, i, d, n, s, lo, be, h, ok, hs => by
    obtain ⟨ds, ns, rfl, hp, rfl, _⟩ := bl_inv h
    rw [lowB_eq]
    exact lowBs_good (fun s d r hr => st_len (fun l' e i d n s lo be h => by cases e; exact low_len l h) hr) (fun s d r hr hs => st_good (fun l' e i d n s lo be h ok hs => by cases e; exact low_good l h ok hs) ok hr hs) hp s hs
end
/-- the program that a block becomes -/
def srcP (rs : List Str) (size : Int) (d : PyData) : PrD := ⟨rs, size, lowB rs size 3 0 none none d⟩
theorem regs_words {ws : List Str} (h : regsB (.tuple (ws.map PyData.str)) = true) : ws ≠ [] ∧ ws.length ≤ 2 ∧ ∀ z ∈ ws, wordS z = true := by
  match ws, h with
  | [a], h =>
    refine ⟨by simp, by simp, fun z hz => ?_⟩
    rw [List.mem_singleton.1 hz]
    exact h
  | [a, b], h =>
    have h' : (wordS a && wordS b && !strEq (.str a) (.str b)) = true := h
    rw [Bool.and_eq_true, Bool.and_eq_true] at h'
    refine ⟨by simp, by simp, fun z hz => ?_⟩
    rcases List.mem_cons.1 hz with rfl | hz
    · exact h'.1.1
    · rw [List.mem_singleton.1 hz]
      exact h'.1.2
  | _ :: _ :: _ :: _, h => cases h
theorem src_ok {rs : List Str} {size : Int} {d : PyData} (hr : regsB (.tuple (rs.map PyData.str)) = true) (hw : sm (.tuple (rs.map PyData.str)) = true) (h2 : 2 ≤ size) (h3 : size ≤ 3) (h : okB rs size d = true) : (srcP rs size d).Ok ∧ ∃ n, cntB rs size 3 false d = some n ∧ (srcP rs size d).ds.length = n := by
  unfold okB at h
  cases hc : cntB rs size 3 false d with
  | none =>
    rw [hc] at h
    cases h
  | some n =>
    rw [hc] at h
    have hn : 0 < n := of_decide_eq_true h
    obtain ⟨_, _, _, _, _, hle⟩ := bl_inv hc
    have hl : (srcP rs size d).ds.length = n := low_len 3 hc
    have hg : ∀ y ∈ (srcP rs size d).ds, rowB rs size (n : Nat) y = true := low_good (N := n) 3 hc ⟨fun _ e => (nomatch e), fun _ e => (nomatch e), fun e => (nomatch e)⟩ (by omega)
    obtain ⟨_, _, wz⟩ := regs_words hr
    refine ⟨⟨hr, hw, h2, h3, by omega, by omega, fun y hy => ?_, fun y hy => ?_⟩, n, rfl, hl⟩
    · rw [hl]
      exact hg y hy
    · exact row_sml2 wz h3 (by omega) (hg y hy)

end YY

set_option maxRecDepth 100000
set_option maxHeartbeats 4000000
namespace YY
open PySem PySem.Spec PyProof.Rows L2 XX
local macro_rules | `(tactic| walk_at "wp") => `(tactic| simp only [Int.zero_add, L2.start, LcEnd, List.append_nil, List.cons.injEq, List.cons_append, List.getElem?_cons_succ, List.getElem?_cons_zero, List.length_cons, List.length_nil, List.map_cons, List.map_nil, List.nil_append, List.replicate, List.replicate_succ, List.replicate_zero, List.set_cons_succ, List.set_cons_zero, Nat.reduceAdd, Nat.reduceSub, Option.some.injEq, StX.tMakeR, StX.tStar, V.bl.injEq, V.int.injEq, V.ref.injEq, V.str.injEq, V.ty.injEq, WE, and_assoc, and_false, and_true, bool_ite_false, bool_ite_true, cxOf_K, cxOf_noxK, dec_ite, decide_eq_true_eq, exists_and_left, exists_and_right, exists_const, exists_eq_left, exists_eq_left', false_and, false_or, gCons, gName, gNil, gSub, gTup, iEnumA, iItems, iKeys, iList, iRng1, iRng2, iStr, iTup, iZipB, ite_false, ite_true, ndec_ite, or_false, rAppend, rCat, rCatT, rEq, rEqI, rEqK, rEqV, rExt2, rI, rI0, rIn, rInRg, rIndex, rIsD, rIsE, rIsE2, rIxD, rIxL, rIxS, rIxT, rLenI, rLenK, rListStr, rMax, rMaxDef, rSetIM, rEqT, sFldAug, rAdd, rMin, rMulS, rNe, rNeDA, rNeV, rRange1, rRep, rRepA, rReprE, rReprI, rSetD, rSetI, rSetL, rSlL, rSlT, rSortedSet, rU, reduceCtorEq, reduceIte, sFld, tAnd, tAndV, tAsg, tAug, tB, tBM, tBM0, tC, tCB, tCKw, tDGetT, tCall, tCallS, tChain, tCons, tDGet, tDIn, tDNewK, tDNotIn, tDcT_eq, tDc_eq, tDisp, tDrop, tErr, tFld, tFor_eq, tIf, tIfS, tIxI, tLc2_eq, tLc_eq, tLenSetS, tLock, tLockE, tLst, tLstRg, tM1, tMakeRS, tMakeS, tMakeV, tMakeVS, tMeth, tMethX, tMkO, tMulA, tMulD, tNext, tNil, tNoPart, tNot, tNotV, tOp, tOpI, tOpR, tOr, tOrV, tOst, tPairs, tPar, tPar3, tPart, tRet, tRetN, tRevT, tRg2, tSMeth, tSeq, tSl, tTest, tTup, tUn, tVar, tVeI, tXf, tYes, true_and, wAs, wMA, wipe, rSum])
/-! ### Source.__init__ -/
abbrev sSInit : Stmt := inClass (topS 37) 0
abbrev sSEq : Stmt := inClass (topS 37) 1
def raisesV (cls : Addr) (v : V) (H : Hp) (E : XK) : Prop := ∀ G d, Same H G → G d = none → E (.ref cls) (some d) (upd G d (.xd [("value", v)]))
structure SrcC (K : PySem.W.Frag) (C : Addr) : Prop where
  cls : Cls K C
  n1 : NoAttr K C "block"
  n2 : NoAttr K C "program"
/-- a source of a block -/
def SrcAt (K : PySem.W.Frag) (CS CP : Addr) (H : Hp) (x : Addr) (b : PyData) (g : PrD) : Prop := ∃ (dx p : Addr) (bv : V), H x = some (.ins CS dx [("block", bv), ("program", .ref p)]) ∧ Dp K H bv b ∧ ProgAt K CP H p g
theorem SrcAt.same {K : PySem.W.Frag} {CS CP x : Addr} {H G : Hp} {b : PyData} {g : PrD} (e : Same H G) (h : SrcAt K CS CP H x b g) : SrcAt K CS CP G x b g := by
  obtain ⟨dx, p, bv, h1, h2, h3⟩ := h
  exact ⟨dx, p, bv, e _ _ h1, dp_same e _ _ h2, h3.same e⟩
theorem ne_fs {H : Hp} {a b C C' dx dx' : Addr} {fs fs' : List (Str × V)} (h1 : H a = some (.ins C dx fs)) (h2 : H b = some (.ins C' dx' fs')) (n : fs.length ≠ fs'.length) : a ≠ b := fun e => by
  rw [e, h2] at h1
  cases h1
  exact n rfl
theorem ProgAt.ex {K : PySem.W.Frag} {CP C x dx p : Addr} {fs : List (Str × V)} {H G : Hp} {g : PrD} (hx : H x = some (.ins C dx fs)) (n : fs.length ≠ 6) (e : Ex x H G) (h : ProgAt K CP H p g) : ProgAt K CP G p g := by
  obtain ⟨dp, wr, t, plA, chA, h1, h2, h3, h4, h5⟩ := h
  refine ⟨dp, wr, t, plA, chA, e _ _ (ne_fs h1 hx (by simpa using n.symm)) h1, sqT_ex hx e h2, dp_ex hx e _ _ h3, e _ _ (ne_of h4 hx (by intro z; cases z)) h4, h5.ex hx e⟩
section
variable {kws : List (Str × V)} {P : Program} {w : World} {K : PySem.W.Frag} {mg : Str → Option Value} {base : Heap}
def spSrc (K : PySem.W.Frag) (CS CP cR cN cB : Addr) : Sp := fun vs H Q E => ∃ (x dx : Addr) (bv wv zv : V) (bd wd zd : PyData), vs = [.ref x, bv, wv, zv] ∧ H x = some (.ins CS dx []) ∧ Dp K H bv bd ∧ sm bd = true ∧ Dp K H wv wd ∧ sm wd = true ∧ Dp K H zv zd ∧
  (regsB wd = false → raisesV cR wv H E) ∧ (regsB wd = true → btw zd 2 3 = false → raisesV cN zv H E) ∧
  (regsB wd = true → btw zd 2 3 = true → okB (strsOf wd) (intOf zd) bd = false → raisesV cB bv H E) ∧
  (regsB wd = true → btw zd 2 3 = true → okB (strsOf wd) (intOf zd) bd = true → ∀ G, Ex x H G → SrcAt K CS CP G x bd (srcP (strsOf wd) (intOf zd) bd) → Q .non G)
theorem scSrc : FnScope ["self", "block", "registers", "values"] ["self", "block", "registers", "values"] (defScope sSInit) := ⟨rfl, rfl, rfl, by decide +kernel, rfl, by decide +kernel, by decide +kernel⟩
theorem c_srcInit {CS CP f fI fP : Addr} {fd fdI fdP : FuncData} {cR cN cW cBr cB : Addr} (F : FunD K "__init__" "Source.__init__" (defArgs sSInit) (defBody sSInit) (defScope sSInit) [] kws f fd) (T : Bl2 mg) (ER : Errs K mg fI cR cN cW cBr) (EB : ErrC K mg "BadBlock" cB fI) (scs : SrcC K CS)
    (cI : FnOk P w K mg base CX0 1 fI fdI ["self", "value"] (spErr K)) (hbI : Binds K fdI ["self", "value"] []) (c1 : FnC P w K mg base CX0 2 "are_registers" ["value"] (spAreRegs K)) (c2 : FnC P w K mg base CX0 2 "is_between" ["value", "least", "most"] (spIsBetween K))
    (cK : FnC P w K mg base CX0 14 "is_block" ["value", "registers", "size"] (spIsBlock K)) (cL : FnC P w K mg base CX0 14 "lowered_rows" ["block"] (spLowered K)) (gP : mg "Program" = some (.ref CP)) (M : Mk K CP fP) (pc : ProgC K CP)
    (hb : KBn K fdP ["self", "rows", "registers", "values"] 2 ["registers", "values"] gCat gCat) (FP : FnOk P w K mg base (L2.CX P w) 5 fP fdP ["self", "rows", "registers", "values"] (spProg K CP cR cN cW cBr)) : FnOk P w K mg base (L2.CX P w) 15 f fd ["self", "block", "registers", "values"] (spSrc K CS CP cR cN cB) := by
  refine F.ok scSrc (fun vs H Q E h => ?_) (fun cdv A outer s H vs Q E hr h => ?_)
  · obtain ⟨x, dx, bv, wv, zv, bd, wd, zd, rfl, _⟩ := h
    rfl
  · obtain ⟨x, dx, bv, wv, zv, bd, wd, zd, rfl, hx, hbv, hbs, hwv, hws, hzv, k1, k2, k3, k4⟩ := h
    have sc := scSrc
    have hr2 : Room 2 _ := hr.mono (by decide)
    have hr6 : Room 6 _ := hr.mono (by decide)
    refine ⟨_, (pss_cut (ps_if (pt_not (pt_val (pe_c c1 hr2 rfl (pa_cons (pv 2) pa_nil)))) (pss_one (ps_err ER.R cI hbI hr2 rfl (takes_of rfl rfl rfl rfl) (pv 2) rfl)) pss_nil)
      (pss_cut (ps_if (pt_not (pt_val (pe_c c2 hr2 rfl (pa_cons (pv 3) (pa_cons pe_int (pa_cons pe_int pa_nil)))))) (pss_one (ps_err ER.N cI hbI hr2 rfl (takes_of rfl rfl rfl rfl) (pv 3) rfl)) pss_nil)
      (pss_cut (ps_if (pt_not (pt_val (pe_c cK hr rfl (pa_cons (pv 1) (pa_cons (pv 2) (pa_cons (pv 3) pa_nil)))))) (pss_one (ps_err EB cI hbI hr2 rfl (takes_of rfl rfl rfl rfl) (pv 1) rfl)) pss_nil)
      (pss_cut (ps_fld (pv 0) (pv 1) rfl)
      (pss_one (ps_fld (pv 0) (pe_makeS (E := fun _ => WE (fun cls d _ H => E cls d H) []) (n := 1) M FP hr6 rfl gP hb (fun σ => passAt (takes_of rfl rfl rfl rfl) σ) (pa_cons (pe_c cL hr rfl (pa_cons (pv 1) pa_nil)) pa_nil) (pk_cons (pv 2) (pk_cons (pv 3) pk_nil))) rfl)))))), ?_⟩
    refine cut_hide (fun τ G => τ = [some (V.ref x), some bv, some wv, some zv] ∧ Same H G ∧ regsB wd = true) (fun M' hM => ?_) ?_
    · walk_at "wp"
      refine ⟨wv, wd, rfl, hwv, hws, fun G g => ⟨_, rfl, ?_⟩⟩
      cases e : regsB wd with
      | false => exact err_of2 ER.R.oex ER.R.no fun d hd => k1 e G d g hd
      | true => exact hM _ _ ⟨rfl, g, e⟩
    rintro τ G ⟨rfl, g, e1⟩
    refine cut_hide (fun τ G' => τ = [some (V.ref x), some bv, some wv, some zv] ∧ G' = G ∧ btw zd 2 3 = true) (fun M' hM => ?_) ?_
    · walk_at "wp"
      refine ⟨zv, zd, 2, 3, rfl, dp_same g _ _ hzv, _, rfl, ?_⟩
      cases e : btw zd 2 3 with
      | false => exact err_of2 ER.N.oex ER.N.no fun d hd => k2 e1 e G d g hd
      | true => exact hM _ _ ⟨rfl, rfl, e⟩
    rintro τ G' ⟨rfl, rfl, e2⟩
    obtain ⟨ew, _⟩ := regs_strs e1
    have hw' : Dp K H wv (.tuple ((strsOf wd).map PyData.str)) := ew ▸ hwv
    obtain ⟨wa, rfl, hwa⟩ := dp_strs hw'
    obtain ⟨ez, rfl⟩ := int_btw e2 hzv
    refine cut_hide (fun τ F => τ = [some (V.ref x), some bv, some (.ref wa), some (.int (intOf zd))] ∧ Same G' F ∧ okB (strsOf wd) (intOf zd) bd = true) (fun M' hM => ?_) ?_
    · walk_at "wp"
      refine ⟨bv, bd, wa, strsOf wd, intOf zd, rfl, dp_same g _ _ hbv, hbs, Same.sqT g hwa, fun F s => ⟨_, rfl, ?_⟩⟩
      cases e : okB (strsOf wd) (intOf zd) bd with
      | false => exact err_of2 EB.oex EB.no fun d hd => k3 e1 e2 e F d (g.trans s) hd
      | true => exact hM _ _ ⟨rfl, s, e⟩
    rintro τ F ⟨rfl, sF, e3⟩
    have gF := g.trans sF
    have hxF := gF _ _ hx
    refine cut_hide (fun τ A => τ = [some (V.ref x), some bv, some (.ref wa), some (.int (intOf zd))] ∧ Ex x F A ∧ A x = some (.ins CS dx [("block", bv)])) (fun M' hM => ?_) ?_
    · walk_at "wp"
      exact ⟨CS, dx, [], hxF, scs.cls, scs.n1, by decide, hM _ _ ⟨rfl, ex_upd, upd_same⟩⟩
    rintro τ A ⟨rfl, xA, hxA⟩
    have hb2 : 2 ≤ intOf zd ∧ intOf zd ≤ 3 := by
      have e := e2
      rw [ez] at e
      unfold btw at e
      simpa using e
    obtain ⟨okg, n, hn, hln⟩ := src_ok (rs := strsOf wd) (size := intOf zd) (d := bd) (by rw [← ew]; exact e1) (by rw [← ew]; exact hws) hb2.1 hb2.2 e3
    have hbA := dp_ex hxF xA _ _ (dp_same gF _ _ hbv)
    have hwA := sqT_ex hxF xA (Same.sqT gF hwa)
    walk_at "wp"
    refine ⟨bv, bd, strsOf wd, intOf zd, n, rfl, hbA, hbs, hn, fun ra F2 ys s2 hra hys y dy hy hdy hne => ?_⟩
    have s0 : Same F2 (upd (upd F2 dy (.own y)) y (.ins CP dy [])) := same_mut (same_new hdy) hy
    generalize hA0 : upd (upd F2 dy (.own y)) y (.ins CP dy []) = A0 at s0
    have hy0 : A0 y = some (.ins CP dy []) := by rw [← hA0, upd_same]
    have sAA := s2.trans s0
    refine spProg_good (rd := .list (lowB (strsOf wd) (intOf zd) 3 0 none none bd)) (g := srcP (strsOf wd) (intOf zd) bd) hy0 pc (.lst (SqL.of (s0 _ _ hra)) (dps_same s0 _ _ hys)) okg.smT rfl (.tup (Same.sqT sAA hwA) (dpAll_strs _)) okg fun G3 ex hp => ⟨rfl, ?_⟩
    have nyx : x ≠ y := fun z => by
      have := s2 _ _ hxA
      rw [z, hy] at this
      cases this
    have hx3 : G3 x = some (.ins CS dx [("block", bv)]) := ex _ _ nyx (sAA _ _ hxA)
    have xAll : Ex x F G3 := fun b o hb hbo => by
      have h1 := sAA _ _ (xA b o hb hbo)
      refine ex b o (fun z => ?_) h1
      have h2 := s2 _ _ (xA b o hb hbo)
      rw [z, hy] at h2
      cases h2
    refine ⟨CS, dx, _, hx3, scs.cls, scs.n2, (by show 1 < 1000; decide), k4 e1 e2 e3 _ (((ex_same gF).trans xAll).trans ex_upd) ⟨dx, y, bv, upd_same, ?_, ?_⟩⟩
    · refine dp_ex hx3 ex_upd _ _ (dp_ex hy0 ex _ _ (dp_same sAA _ _ hbA))
    · exact hp.ex hx3 (by show 1 ≠ 6; decide) ex_upd
end

end YY

set_option maxRecDepth 100000
set_option maxHeartbeats 4000000
namespace YY
open PySem PySem.Spec PyProof.Rows L2 XX
local macro_rules | `(tactic| walk_at "wp") => `(tactic| simp only [Int.zero_add, L2.start, LcEnd, List.append_nil, List.cons.injEq, List.cons_append, List.getElem?_cons_succ, List.getElem?_cons_zero, List.length_cons, List.length_nil, List.map_cons, List.map_nil, List.nil_append, List.replicate, List.replicate_succ, List.replicate_zero, List.set_cons_succ, List.set_cons_zero, Nat.reduceAdd, Nat.reduceSub, Option.some.injEq, StX.tMakeR, StX.tStar, V.bl.injEq, V.int.injEq, V.ref.injEq, V.str.injEq, V.ty.injEq, WE, and_assoc, and_false, and_true, bool_ite_false, bool_ite_true, cxOf_K, cxOf_noxK, dec_ite, decide_eq_true_eq, exists_and_left, exists_and_right, exists_const, exists_eq_left, exists_eq_left', false_and, false_or, gCons, gName, gNil, gSub, gTup, iEnumA, iItems, iKeys, iList, iRng1, iRng2, iStr, iTup, iZipB, ite_false, ite_true, ndec_ite, or_false, rAppend, rCat, rCatT, rEq, rEqI, rEqK, rEqV, rExt2, rI, rI0, rIn, rInRg, rIndex, rIsD, rIsE, rIsE2, rIxD, rIxL, rIxS, rIxT, rLenI, rLenK, rListStr, rMax, rMaxDef, rSetIM, rEqT, sFldAug, rAdd, rMin, rMulS, rNe, rNeDA, rNeV, rRange1, rRep, rRepA, rReprE, rReprI, rSetD, rSetI, rSetL, rSlL, rSlT, rSortedSet, rU, reduceCtorEq, reduceIte, sFld, tAnd, tAndV, tAsg, tAug, tB, tBM, tBM0, tC, tCB, tCKw, tDGetT, tCall, tCallS, tChain, tCons, tDGet, tDIn, tDNewK, tDNotIn, tDcT_eq, tDc_eq, tDisp, tDrop, tErr, tFld, tFor_eq, tIf, tIfS, tIxI, tLc2_eq, tLc_eq, tLenSetS, tLock, tLockE, tLst, tLstRg, tM1, tMakeRS, tMakeS, tMakeV, tMakeVS, tMeth, tMethX, tMkO, tMulA, tMulD, tNext, tNil, tNoPart, tNot, tNotV, tOp, tOpI, tOpR, tOr, tOrV, tOst, tPairs, tPar, tPar3, tPart, tRet, tRetN, tRevT, tRg2, tSMeth, tSeq, tSl, tTest, tTup, tUn, tVar, tVeI, tXf, tYes, true_and, wAs, wMA, wipe, rSum])
/-! ### how large blocks are -/
theorem tup_depth {ds : List PyData} {k : Nat} (h : ∀ d ∈ ds, d.depth ≤ k) : (PyData.tuple ds).depth ≤ k + 1 := by
  have := dp_all h
  simp only [PyData.depth]
  omega
theorem tup_sm {ds : List PyData} (hl : ds.length ≤ 1000) (h : ∀ d ∈ ds, sm d = true) : sm (.tuple ds) = true := by
  rw [sm, Bool.and_eq_true]
  exact ⟨decide_eq_true hl, sms_of h⟩
theorem wtAll_cons (d : PyData) (ds : List PyData) : PyData.weightAll (d :: ds) = d.weight + PyData.weightAll ds + 1 := by
  simp only [PyData.weightAll]
  omega
theorem wt_tup (ds : List PyData) : (PyData.tuple ds).weight = PyData.weightAll ds := by
  simp only [PyData.weight]
theorem gd_wz {p : PyData} (h : GdP p) : Sml 0 100 p := (gd_sml h)
theorem lit_wz {z : Str} (h : wordS z = true) : Sml 0 100 (.str z) := (word_sml (wordS_iff h)).mono (Nat.le_refl _) (by decide)
section
variable {rs : List Str} {size : Int}
theorem set_gd {a b : PyData} (hr : ∀ z ∈ rs, wordS z = true) (hs : size ≤ 3) (h : rowZ rs size (.tuple [.str "set", a, b]) = true) : GdP a ∧ GdP b := by
  have h' := rowB_parts (ns := ["place", "value"]) (by decide +kernel) (show rowB rs size 0 (.tuple [.str "set", a, b]) = true from h)
  obtain ⟨c, _⟩ := parts_gd hr hs (by decide) h'
  exact ⟨c a (by simp), c b (by simp)⟩
theorem st_pos {l : Nat} {inl : Bool} {d : PyData} {r : Nat} (h : StC rs size l inl d r) : 1 ≤ r := by
  cases h <;> omega
theorem bl_wz {l c k : Nat} {inl : Bool} (hst : ∀ d r, StC rs size l inl d r → Sml k (c * r) d) {ds : List PyData} {ns : List Nat} (hp : Paired (fun d r => StC rs size l inl d r) ds ns) (hn : ns.sum ≤ 24) : Sml (k + 1) ((c + 1) * ns.sum) (.tuple ds) := by
  have key : ∀ {ds : List PyData} {ns : List Nat}, Paired (fun d r => StC rs size l inl d r) ds ns → ds.length ≤ ns.sum ∧ (∀ d ∈ ds, sm d = true ∧ d.depth ≤ k) ∧ PyData.weightAll ds ≤ (c + 1) * ns.sum := by
    intro ds ns hp
    induction hp with
    | nil => exact ⟨Nat.le_refl _, fun _ h => (nomatch h), Nat.le_refl _⟩
    | @cons d r ds ns h _ ih =>
      obtain ⟨i1, i2, i3⟩ := ih
      have h1 := st_pos h
      have hz := hst d r h
      refine ⟨by rw [List.length_cons, List.sum_cons]; omega, fun e he => ?_, ?_⟩
      · rcases List.mem_cons.1 he with rfl | he
        · exact ⟨hz.s, hz.dp⟩
        · exact i2 e he
      · rw [wtAll_cons, List.sum_cons, Nat.mul_add, Nat.add_mul c 1 r, Nat.one_mul]
        have := hz.wt
        omega
  obtain ⟨k1, k2, k3⟩ := key hp
  exact ⟨tup_sm (by omega) fun d hd => (k2 d hd).1, tup_depth fun d hd => (k2 d hd).2, by rw [wt_tup]; exact k3⟩
theorem st_wz {l c k : Nat} {inl : Bool} (hr : ∀ z ∈ rs, wordS z = true) (hs : size ≤ 3) (hc : 2100 ≤ c) (hb : ∀ l', l = l' + 1 → ∃ c' k', c' + 1 ≤ c ∧ k' + 2 ≤ k ∧ ∀ i d n, cntB rs size l' i d = some n → Sml (k' + 1) (c' * n) d) {d : PyData} {r : Nat} (hk : 2 ≤ k) (h : StC rs size l inl d r) : Sml k (c * r) d := by
  cases h with
  | plain h1 h2 => exact (row_sml2 hr hs (by decide) h2).mono hk (by omega)
  | @group p h1 =>
    obtain ⟨z, rfl⟩ := wordB_str h1
    have e := (Sml.tup (m := 2) (k := 0) (n := 100) (ds := [.str "group", .str z]) (fun p hp => ?_) (by simp) (by decide))
    · exact e.mono (by omega) (by omega)
    · rcases List.mem_cons.1 hp with rfl | hp
      · exact (word_sml (wordS_iff (by decide +kernel))).mono (Nat.le_refl _) (by decide)
      · rw [List.mem_singleton.1 hp]
        exact (word_sml (wordS_iff h1)).mono (Nat.le_refl _) (by decide)
  | @leave a b h1 h2 =>
    obtain ⟨ga, gb⟩ := set_gd hr hs h2
    have e := (Sml.tup (m := 3) (k := 0) (n := 100) (ds := [.str "leave", a, b]) (fun p hp => ?_) (by simp) (by decide))
    · exact e.mono (by omega) (by omega)
    · rcases List.mem_cons.1 hp with rfl | hp
      · exact (word_sml (wordS_iff (by decide +kernel))).mono (Nat.le_refl _) (by decide)
      · rcases List.mem_cons.1 hp with rfl | hp
        · exact gd_sml ga
        · rw [List.mem_singleton.1 hp]
          exact gd_sml gb
  | @iff l' n m a b x y h1 h2 h3 h4 =>
    obtain ⟨ga, gb⟩ := set_gd hr hs h2
    obtain ⟨c', k', hc', hk', hb'⟩ := hb l' h1
    have w0 : Sml 0 100 (.str "if") := lit_wz (by decide +kernel)
    have wa := gd_wz ga
    have wb := gd_wz gb
    have wx := hb' _ _ _ h3
    have wy := hb' _ _ _ h4
    refine ⟨tup_sm (by simp) fun d hd => ?_, ?_, ?_⟩
    · simp only [List.mem_cons, List.not_mem_nil, or_false] at hd
      rcases hd with rfl | rfl | rfl | rfl | rfl
      · exact w0.s
      · exact wa.s
      · exact wb.s
      · exact wx.s
      · exact wy.s
    · refine Nat.le_trans (tup_depth (k := k' + 1) fun d hd => ?_) (by omega)
      simp only [List.mem_cons, List.not_mem_nil, or_false] at hd
      rcases hd with rfl | rfl | rfl | rfl | rfl
      · exact Nat.le_trans w0.dp (by omega)
      · exact Nat.le_trans wa.dp (by omega)
      · exact Nat.le_trans wb.dp (by omega)
      · exact wx.dp
      · exact wy.dp
    · rw [wt_tup, wtAll_cons, wtAll_cons, wtAll_cons, wtAll_cons, wtAll_cons]
      have e0 := w0.wt
      have e1 := wa.wt
      have e2 := wb.wt
      have e3 := wx.wt
      have e4 := wy.wt
      have e5 : PyData.weightAll [] = 0 := rfl
      have e6 : c' * n ≤ c * n := Nat.mul_le_mul_right _ (by omega)
      have e7 : c' * m ≤ c * m := Nat.mul_le_mul_right _ (by omega)
      have e8 : c * (2 + (n + m)) = c * 2 + (c * n + c * m) := by rw [Nat.mul_add, Nat.mul_add]
      rw [e5, e8]
      omega
  | @whil l' n a b x h1 h2 h3 =>
    obtain ⟨ga, gb⟩ := set_gd hr hs h2
    obtain ⟨c', k', hc', hk', hb'⟩ := hb l' h1
    have w0 : Sml 0 100 (.str "while") := lit_wz (by decide +kernel)
    have wa := gd_wz ga
    have wb := gd_wz gb
    have wx := hb' _ _ _ h3
    refine ⟨tup_sm (by simp) fun d hd => ?_, ?_, ?_⟩
    · simp only [List.mem_cons, List.not_mem_nil, or_false] at hd
      rcases hd with rfl | rfl | rfl | rfl
      · exact w0.s
      · exact wa.s
      · exact wb.s
      · exact wx.s
    · refine Nat.le_trans (tup_depth (k := k' + 1) fun d hd => ?_) (by omega)
      simp only [List.mem_cons, List.not_mem_nil, or_false] at hd
      rcases hd with rfl | rfl | rfl | rfl
      · exact Nat.le_trans w0.dp (by omega)
      · exact Nat.le_trans wa.dp (by omega)
      · exact Nat.le_trans wb.dp (by omega)
      · exact wx.dp
    · rw [wt_tup, wtAll_cons, wtAll_cons, wtAll_cons, wtAll_cons]
      have e0 := w0.wt
      have e1 := wa.wt
      have e2 := wb.wt
      have e3 := wx.wt
      have e5 : PyData.weightAll [] = 0 := rfl
      have e6 : c' * n ≤ c * n := Nat.mul_le_mul_right _ (by omega)
      have e8 : c * (3 + n) = c * 3 + c * n := by rw [Nat.mul_add]
      rw [e5, e8]
      omega
theorem cnt_wz (hr : ∀ z ∈ rs, wordS z = true) (hs : size ≤ 3) : ∀ (l : Nat) (i : Bool) (d : PyData) (n : Nat), cntB rs size l i d = some n → Sml (2 * l + 3) ((2101 + 2 * l) * n) d
  | 0, i, d, n, h => by
    obtain ⟨ds, ns, rfl, hp, rfl, hle⟩ := bl_inv h
    exact (bl_wz (c := 2100) (k := 2) (fun d r hst => st_wz hr hs (Nat.le_refl _) (fun l' e => by cases e) (Nat.le_refl _) hst) hp hle).mono (by omega) (Nat.le_refl _)
  | l + 1, i, d, n, h => by
    obtain ⟨ds, ns, rfl, hp, rfl, hle⟩ := bl_inv h
    refine (bl_wz (c := 2100 + 2 * (l + 1)) (k := 2 * l + 4) (fun d r hst => st_wz hr hs (by omega) (fun l' e => ?_) (by omega) hst) hp hle).mono (by omega) (by rw [show 2100 + 2 * (l + 1) + 1 = 2101 + 2 * (l + 1) by omega]; exact Nat.le_refl _)
    cases e
    exact ⟨2101 + 2 * l, 2 * l + 2, by omega, by omega, fun i d n hc => (cnt_wz hr hs l i d n hc).mono (by omega) (Nat.le_refl _)⟩
/-- a block that a source may be made of -/
theorem ok_wz {d : PyData} (hr : ∀ z ∈ rs, wordS z = true) (hs : size ≤ 3) (h : okB rs size d = true) : Sml 9 51000 d := by
  unfold okB at h
  cases e : cntB rs size 3 false d with
  | none =>
    rw [e] at h
    cases h
  | some n =>
    obtain ⟨_, _, _, _, _, hle⟩ := bl_inv e
    exact (cnt_wz hr hs 3 false d n e).mono (by decide) (Nat.le_trans (Nat.mul_le_mul_left _ hle) (by decide))
end
/-! ### Source.__eq__ -/
def srcEq (b c : PyData) (g h : PrD) : Bool := PyData.eqv b c && (PyData.eqv (.tuple (g.ws.map PyData.str)) (.tuple (h.ws.map PyData.str)) && decide (g.size = h.size))
section
variable {P : Program} {w : World} {K : PySem.W.Frag} {mg : Str → Option Value} {base : Heap}
def spEqS (K : PySem.W.Frag) (CS CP : Addr) : Sp := fun vs H Q _ => ∃ (x y : Addr) (b c : PyData) (g h : PrD), vs = [.ref x, .ref y] ∧ SrcAt K CS CP H x b g ∧ SrcAt K CS CP H y c h ∧ SeqAt.shaped b = true ∧ SeqAt.shaped c = true ∧ g.Ok ∧ h.Ok ∧ Q (.bl (srcEq b c g h)) H
theorem scEqS : FnScope ["self", "other"] ["self", "other"] (defScope sSEq) := ⟨rfl, rfl, rfl, by decide +kernel, rfl, by decide +kernel, by decide +kernel⟩
theorem c_eqS {CS CP : Addr} (D : DefM K CS "__eq__" "Source.__eq__" sSEq ["self", "other"]) (T : Bl2 mg) (scs : SrcC K CS) (pc : ProgC K CP) (gS : mg "Source" = some (.ref CS)) (ic : IsC K CS) : MtC P w K mg base CX0 1 CS "__eq__" ["self", "other"] (spEqS K CS CP) := by
  refine D.ok scEqS (fun vs H Q E h => ?_) (fun f cdv A outer s H vs Q E hr h => ?_)
  · obtain ⟨x, y, _, _, _, _, rfl, _⟩ := h
    rfl
  · obtain ⟨x, y, b, c, g, h, rfl, ⟨dx, p, bv, hx, hbv, dp1, wr1, _, _, _, hp1, hw1, _⟩, ⟨dy, q, cv, hy, hcv, dp2, wr2, _, _, _, hp2, hw2, _⟩, sb, sc', okg, okh, k⟩ := h
    have sc := scEqS
    refine ⟨_, (pss_one (ps_ret (pe_and (pe_callB call_isi (by rfl) T.n_isinstance (by decide +kernel) (pa_cons (pv 1) (pa_cons (pe_glob (v := .ref CS) rfl gS rfl) pa_nil))) (pe_and (pe_cmpR (op_eqD hr.units) (pe_fld (pv 0) rfl) (pe_fld (pv 1) rfl) (nomark _)) (pe_and (pe_cmpR (op_eqD hr.units) (pe_fld (pe_fld (pv 0) rfl) rfl) (pe_fld (pe_fld (pv 1) rfl) rfl) (nomark _)) (L2.pe_one (pe_cmpR op_eq (pe_fld (pe_fld (pv 0) rfl) rfl) (pe_fld (pe_fld (pv 1) rfl) rfl) (nomark _)))))))), ?_⟩
    walk_at "wp"
    refine ⟨_, _, _, _, true, rfl, .own CS, .base (.ins hy scs.cls ic.at_ ic.sp ic.tk ic.mro), kit_self K CS, true, rfl, ?_⟩
    rw [if_pos rfl]
    refine ⟨CS, dx, _, hx, scs.cls, scs.n1, _, rfl, CS, dy, _, hy, scs.cls, scs.n1, _, rfl, _, _, hbv, hcv, sb, sc', _, rfl, ?_⟩
    unfold srcEq at k
    refine ite2 (fun e => ?_) fun e => ?_
    · rw [e, Bool.true_and] at k
      
      refine ⟨CS, dx, _, hx, scs.cls, scs.n2, _, rfl, p, rfl, CP, dp1, _, hp1, pc.cls, pc.n1, _, rfl, CS, dy, _, hy, scs.cls, scs.n2, _, rfl, q, rfl, CP, dp2, _, hp2, pc.cls, pc.n1, _, rfl, ?_⟩
      refine ⟨_, _, .tup hw1 (dpAll_strs _), .tup hw2 (dpAll_strs _), okg.shW, okh.shW, _, rfl, ?_⟩
      refine ite2 (fun e => ?_) fun e => ?_
      · rw [e, Bool.true_and] at k
        refine ⟨CS, dx, _, hx, scs.cls, scs.n2, _, rfl, p, rfl, CP, dp1, _, hp1, pc.cls, pc.n2, _, rfl, CS, dy, _, hy, scs.cls, scs.n2, _, rfl, q, rfl, CP, dp2, _, hp2, pc.cls, pc.n2, _, rfl, rfl, ?_⟩
        rw [show decide (V.int g.size = V.int h.size) = decide (g.size = h.size) by simp]
        exact k
      · rw [Bool.eq_false_iff.mpr e, Bool.false_and] at k
        exact k
    · rw [Bool.eq_false_iff.mpr e, Bool.false_and] at k
      exact k
end

end YY

set_option maxRecDepth 100000
set_option maxHeartbeats 4000000
namespace YY
open PySem PySem.Spec PyProof.Rows L2 XX
local macro_rules | `(tactic| walk_at "wp") => `(tactic| simp only [Int.zero_add, L2.start, LcEnd, List.append_nil, List.cons.injEq, List.cons_append, List.getElem?_cons_succ, List.getElem?_cons_zero, List.length_cons, List.length_nil, List.map_cons, List.map_nil, List.nil_append, List.replicate, List.replicate_succ, List.replicate_zero, List.set_cons_succ, List.set_cons_zero, Nat.reduceAdd, Nat.reduceSub, Option.some.injEq, StX.tMakeR, StX.tStar, V.bl.injEq, V.int.injEq, V.ref.injEq, V.str.injEq, V.ty.injEq, WE, and_assoc, and_false, and_true, bool_ite_false, bool_ite_true, cxOf_K, cxOf_noxK, dec_ite, decide_eq_true_eq, exists_and_left, exists_and_right, exists_const, exists_eq_left, exists_eq_left', false_and, false_or, gCons, gName, gNil, gSub, gTup, iEnumA, iItems, iKeys, iList, iRng1, iRng2, iStr, iTup, iZipB, ite_false, ite_true, ndec_ite, or_false, rAppend, rCat, rCatT, rEq, rEqI, rEqK, rEqV, rExt2, rI, rI0, rIn, rInRg, rIndex, rIsD, rIsE, rIsE2, rIxD, rIxL, rIxS, rIxT, rLenI, rLenK, rListStr, rMax, rMaxDef, rSetIM, rEqT, sFldAug, rAdd, rMin, rMulS, rNe, rNeDA, rNeV, rRange1, rRep, rRepA, rReprE, rReprI, rSetD, rSetI, rSetL, rSlL, rSlT, rSortedSet, rU, reduceCtorEq, reduceIte, sFld, tAnd, tAndV, tAsg, tAug, tB, tBM, tBM0, tC, tCB, tCKw, tDGetT, tCall, tCallS, tChain, tCons, tDGet, tDIn, tDNewK, tDNotIn, tDcT_eq, tDc_eq, tDisp, tDrop, tErr, tFld, tFor_eq, tIf, tIfS, tIxI, tLc2_eq, tLc_eq, tLenSetS, tLock, tLockE, tLst, tLstRg, tM1, tMakeRS, tMakeS, tMakeV, tMakeVS, tMeth, tMethX, tMkO, tMulA, tMulD, tNext, tNil, tNoPart, tNot, tNotV, tOp, tOpI, tOpR, tOr, tOrV, tOst, tPairs, tPar, tPar3, tPart, tRet, tRetN, tRevT, tRg2, tSMeth, tSeq, tSl, tTest, tTup, tUn, tVar, tVeI, tXf, tYes, true_and, wAs, wMA, wipe, rSum])
/-! ### the law's own look at a block -/
def sgnTab : List (Str × List Nat) := [("set", [114, 118]), ("copy", [114, 114]), ("take", [114]), ("meet", [119]), ("any", [114, 118, 114]), ("all", [114, 118, 114]), ("same", [114, 114]), ("group", [119]), ("leave", [114, 118]), ("if", [114, 118, 98, 98]), ("while", [114, 118, 98])]
def signsOf (z : Str) : Option (List Nat) := (sgnTab.find? fun e => e.1 == z).map Prod.snd
def lpB (rs : List Str) (size : Int) (c : Nat) (p : PyData) : Bool := if c = 114 then placeB rs p else if c = 118 then btw p 0 (size - 1) else if c = 98 then isTupD p else wordB p
def lpsB (rs : List Str) (size : Int) : List Nat → List PyData → Bool
  | [], [] => true
  | c :: cs, p :: ps => lpB rs size c p && lpsB rs size cs ps
  | _, _ => false
def lgZ (rs : List Str) (size : Int) (z : Str) (ps : List PyData) : Bool := match signsOf z with
  | some cs => lpsB rs size cs ps
  | none => false
def lgP (rs : List Str) (size : Int) : PyData → Bool
  | .tuple (.str z :: ps) => lgZ rs size z ps
  | _ => false
abbrev LF := Option (Bool → PyData → Bool)
def lgIn (cb : LF) (z : Str) (ps : List PyData) : Bool :=
  if z = "if" then (match cb with
    | some f => f false (ps.getD 2 .none) && f false (ps.getD 3 .none)
    | none => false)
  else if z = "while" then (match cb with
    | some f => f true (ps.getD 2 .none)
    | none => false)
  else true
def lgS (cb : LF) (inl : Bool) : PyData → Bool
  | .tuple (.str z :: ps) => (decide (z ≠ "leave") || inl) && lgIn cb z ps
  | _ => false
def lgSt (rs : List Str) (size : Int) (cb : LF) (inl : Bool) (d : PyData) : Bool := lgP rs size d && lgS cb inl d
def lgBl (f : PyData → Bool) : PyData → Bool
  | .tuple ds => ds.all f
  | _ => false
def lgB (rs : List Str) (size : Int) : Nat → Bool → PyData → Bool
  | 0, inl => lgBl (lgSt rs size none inl)
  | l + 1, inl => lgBl (lgSt rs size (some (lgB rs size l)) inl)
def lfOf (rs : List Str) (size : Int) : Nat → LF
  | 0 => none
  | l + 1 => some (lgB rs size l)
theorem lgB_eq (rs : List Str) (size : Int) (l : Nat) (inl : Bool) : lgB rs size l inl = lgBl (lgSt rs size (lfOf rs size l) inl) := by
  cases l <;> rfl
def szZ (f : PyData → Nat) (z : Str) (ps : List PyData) : Nat := if z = "if" then 2 + f (ps.getD 2 .none) + f (ps.getD 3 .none) else if z = "while" then 3 + f (ps.getD 2 .none) else 1
def szSt (f : PyData → Nat) : PyData → Nat
  | .tuple (.str z :: ps) => szZ f z ps
  | _ => 0
def szBl (f : PyData → Nat) : PyData → Nat
  | .tuple ds => (ds.map (szSt f)).sum
  | _ => 0
def szB : Nat → PyData → Nat
  | 0 => szBl fun _ => 0
  | l + 1 => szBl (szB l)
def sfOf : Nat → PyData → Nat
  | 0 => fun _ => 0
  | l + 1 => szB l
theorem szB_eq (l : Nat) : szB l = szBl (sfOf l) := by
  cases l <;> rfl
section
variable {rs : List Str} {size : Int}
def sgN (n : Str) : Nat := if n = "place" then 114 else if n = "value" then 118 else 119
theorem parts_lps : ∀ {ps : List PyData} {ns : List Str}, (∀ n ∈ ns, n = "place" ∨ n = "value" ∨ n = "word") → partsB rs size 0 ps ns = lpsB rs size (ns.map sgN) ps
  | [], [], _ => rfl
  | [], _ :: _, _ => rfl
  | _ :: _, [], _ => rfl
  | p :: ps, n :: ns, h => by
    rw [partsB, List.map_cons, lpsB, parts_lps fun m hm => h m (List.mem_cons_of_mem _ hm)]
    congr 1
    rcases h n List.mem_cons_self with rfl | rfl | rfl
    · rfl
    · exact partB_val
    · exact partB_word
theorem plain_law {z : Str} {ps : List PyData} (h : z ∈ plainS) : rowZ rs size (.tuple (.str z :: ps)) = lgZ rs size z ps := by
  have key : ∀ y ∈ plainS, ∃ ns, formOf y = some ns ∧ (∀ n ∈ ns, n = "place" ∨ n = "value" ∨ n = "word") ∧ signsOf y = some (ns.map sgN) := by
    have k2 : ∀ y ∈ plainS, (match formOf y with
      | some ns => (ns.all fun n => decide (n = "place" ∨ n = "value" ∨ n = "word")) && decide (signsOf y = some (ns.map sgN))
      | none => false) = true := by decide +kernel
    intro y hy
    have := k2 y hy
    cases hf : formOf y with
    | none =>
      rw [hf] at this
      cases this
    | some ns =>
      rw [hf] at this
      have t : ((ns.all fun n => decide (n = "place" ∨ n = "value" ∨ n = "word")) && decide (signsOf y = some (ns.map sgN))) = true := this
      rw [Bool.and_eq_true, decide_eq_true_eq] at t
      exact ⟨ns, rfl, fun n hn => of_decide_eq_true (List.all_eq_true.1 t.1 n hn), t.2⟩
  obtain ⟨ns, hf, hn, hs⟩ := key z h
  have e : rowZ rs size (.tuple (.str z :: ps)) = (match formOf z with
      | some ns => partsB rs size 0 ps ns
      | none => false) := rfl
  rw [e, hf]
  unfold lgZ
  rw [hs]
  exact parts_lps hn
theorem set_law {a b : PyData} : rowZ rs size (.tuple [.str "set", a, b]) = (placeB rs a && btw b 0 (size - 1)) := by
  rw [plain_law (by decide +kernel)]
  show (placeB rs a && (btw b 0 (size - 1) && true)) = _
  rw [Bool.and_true]
theorem two_law {a b : PyData} {r : List PyData} {cs : List Nat} : lpsB rs size (114 :: 118 :: cs) (a :: b :: r) = (rowZ rs size (.tuple [.str "set", a, b]) && lpsB rs size cs r) := by
  rw [set_law, Bool.and_assoc]
  rfl
theorem signs_other {z : Str} (h1 : z ∉ plainS) (h2 : z ≠ "group") (h3 : z ≠ "leave") (h4 : z ≠ "if") (h5 : z ≠ "while") : signsOf z = none := by
  have b : ∀ k : Str, z ≠ k → (k == z) = false := fun k h => beq_false_of_ne (Ne.symm h)
  have hp : ∀ k ∈ plainS, z ≠ k := fun k hk e => h1 (e ▸ hk)
  unfold signsOf sgnTab
  simp only [List.find?_cons, List.find?_nil, b _ (hp "set" (by decide +kernel)), b _ (hp "copy" (by decide +kernel)), b _ (hp "take" (by decide +kernel)), b _ (hp "meet" (by decide +kernel)), b _ (hp "any" (by decide +kernel)), b _ (hp "all" (by decide +kernel)), b _ (hp "same" (by decide +kernel)), b _ h2, b _ h3, b _ h4, b _ h5, Option.map_none]
theorem plain_ne {z : Str} (h : z ∈ plainS) : z ≠ "leave" ∧ z ≠ "if" ∧ z ≠ "while" := by
  have key : ∀ y ∈ plainS, y ≠ "leave" ∧ y ≠ "if" ∧ y ≠ "while" := by decide +kernel
  exact key z h
theorem lgIn_leaf {cb : LF} {z : Str} {ps : List PyData} (h : z ≠ "if" ∧ z ≠ "while") : lgIn cb z ps = true := by
  unfold lgIn
  rw [if_neg h.1, if_neg h.2]
theorem szZ_leaf {f : PyData → Nat} {z : Str} {ps : List PyData} (h : z ≠ "if" ∧ z ≠ "while") : szZ f z ps = 1 := by
  unfold szZ
  rw [if_neg h.1, if_neg h.2]
end

end YY

set_option maxRecDepth 100000
set_option maxHeartbeats 4000000
namespace YY
open PySem PySem.Spec PyProof.Rows L2 XX
local macro_rules | `(tactic| walk_at "wp") => `(tactic| simp only [Int.zero_add, L2.start, LcEnd, List.append_nil, List.cons.injEq, List.cons_append, List.getElem?_cons_succ, List.getElem?_cons_zero, List.length_cons, List.length_nil, List.map_cons, List.map_nil, List.nil_append, List.replicate, List.replicate_succ, List.replicate_zero, List.set_cons_succ, List.set_cons_zero, Nat.reduceAdd, Nat.reduceSub, Option.some.injEq, StX.tMakeR, StX.tStar, V.bl.injEq, V.int.injEq, V.ref.injEq, V.str.injEq, V.ty.injEq, WE, and_assoc, and_false, and_true, bool_ite_false, bool_ite_true, cxOf_K, cxOf_noxK, dec_ite, decide_eq_true_eq, exists_and_left, exists_and_right, exists_const, exists_eq_left, exists_eq_left', false_and, false_or, gCons, gName, gNil, gSub, gTup, iEnumA, iItems, iKeys, iList, iRng1, iRng2, iStr, iTup, iZipB, ite_false, ite_true, ndec_ite, or_false, rAppend, rCat, rCatT, rEq, rEqI, rEqK, rEqV, rExt2, rI, rI0, rIn, rInRg, rIndex, rIsD, rIsE, rIsE2, rIxD, rIxL, rIxS, rIxT, rLenI, rLenK, rListStr, rMax, rMaxDef, rSetIM, rEqT, sFldAug, rAdd, rMin, rMulS, rNe, rNeDA, rNeV, rRange1, rRep, rRepA, rReprE, rReprI, rSetD, rSetI, rSetL, rSlL, rSlT, rSortedSet, rU, reduceCtorEq, reduceIte, sFld, tAnd, tAndV, tAsg, tAug, tB, tBM, tBM0, tC, tCB, tCKw, tDGetT, tCall, tCallS, tChain, tCons, tDGet, tDIn, tDNewK, tDNotIn, tDcT_eq, tDc_eq, tDisp, tDrop, tErr, tFld, tFor_eq, tIf, tIfS, tIxI, tLc2_eq, tLc_eq, tLenSetS, tLock, tLockE, tLst, tLstRg, tM1, tMakeRS, tMakeS, tMakeV, tMakeVS, tMeth, tMethX, tMkO, tMulA, tMulD, tNext, tNil, tNoPart, tNot, tNotV, tOp, tOpI, tOpR, tOr, tOrV, tOst, tPairs, tPar, tPar3, tPart, tRet, tRetN, tRevT, tRg2, tSMeth, tSeq, tSl, tTest, tTup, tUn, tVar, tVeI, tXf, tYes, true_and, wAs, wMA, wipe, rSum])
section
variable {rs : List Str} {size : Int}
theorem lgSt_tup {cb : LF} {inl : Bool} {z : Str} {ps : List PyData} : lgSt rs size cb inl (.tuple (.str z :: ps)) = (lgZ rs size z ps && ((decide (z ≠ "leave") || inl) && lgIn cb z ps)) := rfl
theorem szSt_tup {f : PyData → Nat} {z : Str} {ps : List PyData} : szSt f (.tuple (.str z :: ps)) = szZ f z ps := rfl
theorem cnt_tup {l : Nat} {i : Bool} {d : PyData} {n : Nat} (h : cntB rs size l i d = some n) : isTupD d = true := by
  obtain ⟨ds, _, rfl, _⟩ := bl_inv h
  rfl
theorem a_st {l : Nat} (hb : ∀ l', l = l' + 1 → ∀ i d n, cntB rs size l' i d = some n → lgB rs size l' i d = true ∧ n = szB l' d) {inl : Bool} {d : PyData} {r : Nat} (h : StC rs size l inl d r) : lgSt rs size (lfOf rs size l) inl d = true ∧ r = szSt (sfOf l) d := by
  cases h with
  | @plain z ps h1 h2 =>
    obtain ⟨n1, n2, n3⟩ := plain_ne h1
    rw [lgSt_tup, szSt_tup, szZ_leaf ⟨n2, n3⟩, lgIn_leaf ⟨n2, n3⟩, ← plain_law h1, h2, decide_eq_true n1]
    exact ⟨rfl, rfl⟩
  | @group p h1 =>
    rw [lgSt_tup, szSt_tup, szZ_leaf (by decide), lgIn_leaf (by decide), decide_eq_true (by decide)]
    have e : lgZ rs size "group" [p] = (wordB p && true) := rfl
    rw [e, h1]
    exact ⟨rfl, rfl⟩
  | @leave a b h1 h2 =>
    rw [lgSt_tup, szSt_tup, szZ_leaf (by decide), lgIn_leaf (by decide), h1]
    have e : lgZ rs size "leave" [a, b] = lpsB rs size [114, 118] [a, b] := rfl
    rw [e, two_law, h2]
    exact ⟨rfl, rfl⟩
  | @iff l' n m a b x y h1 h2 h3 h4 =>
    subst h1
    obtain ⟨a1, a2⟩ := hb l' rfl _ _ _ h3
    obtain ⟨b1, b2⟩ := hb l' rfl _ _ _ h4
    rw [lgSt_tup, szSt_tup]
    have e : lgZ rs size "if" [a, b, x, y] = lpsB rs size [114, 118, 98, 98] [a, b, x, y] := rfl
    have e2 : lpsB rs size [98, 98] [x, y] = (isTupD x && (isTupD y && true)) := rfl
    have e3 : lgIn (lfOf rs size (l' + 1)) "if" [a, b, x, y] = (lgB rs size l' false x && lgB rs size l' false y) := rfl
    have e4 : szZ (sfOf (l' + 1)) "if" [a, b, x, y] = 2 + szB l' x + szB l' y := rfl
    rw [e, two_law, h2, e2, e3, e4, cnt_tup h3, cnt_tup h4, a1, b1, a2, b2, decide_eq_true (by decide)]
    exact ⟨rfl, by omega⟩
  | @whil l' n a b x h1 h2 h3 =>
    subst h1
    obtain ⟨a1, a2⟩ := hb l' rfl _ _ _ h3
    rw [lgSt_tup, szSt_tup]
    have e : lgZ rs size "while" [a, b, x] = lpsB rs size [114, 118, 98] [a, b, x] := rfl
    have e2 : lpsB rs size [98] [x] = (isTupD x && true) := rfl
    have e3 : lgIn (lfOf rs size (l' + 1)) "while" [a, b, x] = lgB rs size l' true x := rfl
    have e4 : szZ (sfOf (l' + 1)) "while" [a, b, x] = 3 + szB l' x := rfl
    rw [e, two_law, h2, e2, e3, e4, cnt_tup h3, a1, a2, decide_eq_true (by decide)]
    exact ⟨rfl, rfl⟩
theorem a_bl : ∀ (l : Nat) (i : Bool) (d : PyData) (n : Nat), cntB rs size l i d = some n → lgB rs size l i d = true ∧ n = szB l d := by
  have key : ∀ {l : Nat} {i : Bool}, (∀ d r, StC rs size l i d r → lgSt rs size (lfOf rs size l) i d = true ∧ r = szSt (sfOf l) d) → ∀ {ds : List PyData} {ns : List Nat}, Paired (fun d r => StC rs size l i d r) ds ns → ds.all (lgSt rs size (lfOf rs size l) i) = true ∧ ns.sum = (ds.map (szSt (sfOf l))).sum := by
    intro l i hs ds ns hp
    induction hp with
    | nil => exact ⟨rfl, rfl⟩
    | @cons d r ds ns h _ ih =>
      obtain ⟨h1, h2⟩ := hs d r h
      rw [List.all_cons, h1, ih.1, List.map_cons, List.sum_cons, List.sum_cons, ih.2, h2]
      exact ⟨rfl, rfl⟩
  intro l
  induction l with
  | zero =>
    intro i d n h
    obtain ⟨ds, ns, rfl, hp, rfl, _⟩ := bl_inv h
    rw [lgB_eq, szB_eq]
    exact key (fun d r hst => a_st (fun l' e => by cases e) hst) hp
  | succ l ih =>
    intro i d n h
    obtain ⟨ds, ns, rfl, hp, rfl, _⟩ := bl_inv h
    rw [lgB_eq, szB_eq]
    exact key (fun d r hst => a_st (fun l' e => by cases e; exact ih) hst) hp
theorem b_st {l : Nat} (hb : ∀ l', l = l' + 1 → ∀ i d, lgB rs size l' i d = true → szB l' d ≤ 24 → cntB rs size l' i d = some (szB l' d)) {inl : Bool} {d : PyData} (h : lgSt rs size (lfOf rs size l) inl d = true) (h24 : szSt (sfOf l) d ≤ 24) : cntSt rs size (cbOf rs size l) inl d = some (szSt (sfOf l) d) := by
  unfold lgSt at h
  rw [Bool.and_eq_true] at h
  obtain ⟨hP, hS⟩ := h
  match d, hP, hS, h24 with
  | .tuple (.str z :: ps), hP, hS, h24 =>
    have hP' : lgZ rs size z ps = true := hP
    have hS' : ((decide (z ≠ "leave") || inl) && lgIn (lfOf rs size l) z ps) = true := hS
    rw [Bool.and_eq_true] at hS'
    obtain ⟨hl, hi⟩ := hS'
    rw [szSt_tup] at h24 ⊢
    by_cases c1 : z ∈ plainS
    · obtain ⟨n1, n2, n3⟩ := plain_ne c1
      rw [cs_plain c1, plain_law c1, hP', szZ_leaf ⟨n2, n3⟩]
      rfl
    by_cases c2 : z = "group"
    · subst c2
      rw [cs_group c1 rfl, szZ_leaf (by decide)]
      match ps, hP' with
      | [p], hP' =>
        have e : (wordB p && true) = true := hP'
        rw [Bool.and_true] at e
        exact if_pos ⟨rfl, e⟩
      | p :: q :: r, hP' =>
        have e : (wordB p && false) = true := hP'
        rw [Bool.and_false] at e
        cases e
    by_cases c3 : z = "leave"
    · subst c3
      rw [szZ_leaf (by decide)]
      match ps, hP' with
      | [a, b], hP' =>
        have e : lpsB rs size [114, 118] [a, b] = true := hP'
        rw [two_law, Bool.and_eq_true] at e
        rw [cs_leave c1 c2 e.1 rfl]
        rw [decide_eq_false (by decide), Bool.false_or] at hl
        exact if_pos ⟨rfl, hl⟩
      | [a], hP' =>
        have e : (lpB rs size 114 a && false) = true := hP'
        rw [Bool.and_false] at e
        cases e
      | a :: b :: c :: r, hP' =>
        have e : lpsB rs size [114, 118] (a :: b :: c :: r) = true := hP'
        rw [two_law, Bool.and_eq_true] at e
        cases e.2
    by_cases c4 : z = "if"
    · subst c4
      match ps, hP' with
      | [], hP' => cases hP'
      | [a], hP' =>
        have e : (lpB rs size 114 a && false) = true := hP'
        rw [Bool.and_false] at e
        cases e
      | a :: b :: r, hP' =>
        have e : lpsB rs size [114, 118, 98, 98] (a :: b :: r) = true := hP'
        rw [two_law, Bool.and_eq_true] at e
        match r, e.2 with
        | [x], e2 =>
          have e2 : (lpB rs size 98 x && false) = true := e2
          rw [Bool.and_false] at e2
          cases e2
        | x :: y :: w :: t, e2 =>
          have e2 : (lpB rs size 98 x && (lpB rs size 98 y && false)) = true := e2
          rw [Bool.and_false, Bool.and_false] at e2
          cases e2
        | [x, y], e2 =>
          cases l with
          | zero => cases hi
          | succ l' =>
            have e3 : (lgB rs size l' false x && lgB rs size l' false y) = true := hi
            rw [Bool.and_eq_true] at e3
            have e4 : szZ (sfOf (l' + 1)) "if" [a, b, x, y] = 2 + szB l' x + szB l' y := rfl
            rw [e4] at h24 ⊢
            have q1 := hb l' rfl _ _ e3.1 (by omega)
            have q2 := hb l' rfl _ _ e3.2 (by omega)
            rw [cs_in c1 c2 e.1 c3]
            show (if (([x, y] : List PyData).length : Int) + 3 = 5 then (sumO ([x, y].map (cntB rs size l' (decide (("if" : Str) = "while"))))).map (2 + ·) else none) = _
            rw [if_pos (show (([x, y] : List PyData).length : Int) + 3 = 5 from rfl)]
            have e5 : [x, y].map (cntB rs size l' (decide (("if" : Str) = "while"))) = [some (szB l' x), some (szB l' y)] := by
              show [cntB rs size l' false x, cntB rs size l' false y] = _
              rw [q1, q2]
            rw [e5]
            show some (2 + (szB l' x + (szB l' y + 0))) = _
            congr 1
            omega
    by_cases c5 : z = "while"
    · subst c5
      match ps, hP' with
      | [], hP' => cases hP'
      | [a], hP' =>
        have e : (lpB rs size 114 a && false) = true := hP'
        rw [Bool.and_false] at e
        cases e
      | a :: b :: r, hP' =>
        have e : lpsB rs size [114, 118, 98] (a :: b :: r) = true := hP'
        rw [two_law, Bool.and_eq_true] at e
        match r, e.2 with
        | x :: y :: t, e2 =>
          have e2 : (lpB rs size 98 x && false) = true := e2
          rw [Bool.and_false] at e2
          cases e2
        | [x], e2 =>
          cases l with
          | zero => cases hi
          | succ l' =>
            have e3 : lgB rs size l' true x = true := hi
            have e4 : szZ (sfOf (l' + 1)) "while" [a, b, x] = 3 + szB l' x := rfl
            rw [e4] at h24 ⊢
            have q1 := hb l' rfl _ _ e3 (by omega)
            rw [cs_in c1 c2 e.1 c3]
            show (if (([x] : List PyData).length : Int) + 3 = 4 then (sumO ([x].map (cntB rs size l' (decide (("while" : Str) = "while"))))).map (3 + ·) else none) = _
            rw [if_pos (show (([x] : List PyData).length : Int) + 3 = 4 from rfl)]
            have e5 : [x].map (cntB rs size l' (decide (("while" : Str) = "while"))) = [some (szB l' x)] := by
              show [cntB rs size l' true x] = _
              rw [q1]
            rw [e5]
            rfl
    · unfold lgZ at hP'
      rw [signs_other c1 c2 c3 c4 c5] at hP'
      cases hP'
theorem b_bl : ∀ (l : Nat) (i : Bool) (d : PyData), lgB rs size l i d = true → szB l d ≤ 24 → cntB rs size l i d = some (szB l d) := by
  have key : ∀ {l : Nat} {i : Bool}, (∀ d, lgSt rs size (lfOf rs size l) i d = true → szSt (sfOf l) d ≤ 24 → cntSt rs size (cbOf rs size l) i d = some (szSt (sfOf l) d)) → ∀ (ds : List PyData) (m : Nat), ds.all (lgSt rs size (lfOf rs size l) i) = true → m + (ds.map (szSt (sfOf l))).sum ≤ 24 → ds.foldl (fun o d => addO o (cntSt rs size (cbOf rs size l) i d)) (some m) = some (m + (ds.map (szSt (sfOf l))).sum) := by
    intro l i hs ds
    induction ds with
    | nil =>
      intro m _ _
      rfl
    | cons d ds ih =>
      intro m h1 h2
      rw [List.all_cons, Bool.and_eq_true] at h1
      rw [List.map_cons, List.sum_cons] at h2 ⊢
      rw [List.foldl_cons, hs d h1.1 (by omega)]
      show ds.foldl (fun o d => addO o (cntSt rs size (cbOf rs size l) i d)) (if 24 < m + szSt (sfOf l) d then none else some (m + szSt (sfOf l) d)) = _
      rw [if_neg (by omega), ih _ h1.2 (by omega), Nat.add_assoc]
  intro l
  induction l with
  | zero =>
    intro i d h h24
    rw [lgB_eq] at h
    rw [szB_eq] at h24 ⊢
    rw [cntB_eq]
    match d, h, h24 with
    | .tuple ds, h, h24 =>
      have := key (fun d a b => b_st (l := 0) (fun l' e => by cases e) a b) ds 0 h (by rw [Nat.zero_add]; exact h24)
      rw [Nat.zero_add] at this
      exact this
  | succ l ih =>
    intro i d h h24
    rw [lgB_eq] at h
    rw [szB_eq] at h24 ⊢
    rw [cntB_eq]
    match d, h, h24 with
    | .tuple ds, h, h24 =>
      have := key (fun d a b => b_st (l := l + 1) (fun l' e => by cases e; exact ih) a b) ds 0 h (by rw [Nat.zero_add]; exact h24)
      rw [Nat.zero_add] at this
      exact this
/-- what the program's look at a block tells is what the law's look tells -/
theorem ok_law (d : PyData) : okB rs size d = (lgB rs size 3 false d && (decide (1 ≤ szB 3 d) && decide (szB 3 d ≤ 24))) := by
  unfold okB
  cases h : cntB rs size 3 false d with
  | some n =>
    obtain ⟨h1, h2⟩ := a_bl 3 false d n h
    obtain ⟨_, _, _, _, _, hle⟩ := bl_inv h
    subst h2
    rw [h1, decide_eq_true hle, Bool.and_true, Bool.true_and]
    rfl
  | none =>
    by_cases c : lgB rs size 3 false d = true ∧ szB 3 d ≤ 24
    · rw [b_bl 3 false d c.1 c.2] at h
      cases h
    · symm
      rw [Bool.eq_false_iff]
      intro e
      rw [Bool.and_eq_true, Bool.and_eq_true, decide_eq_true_eq, decide_eq_true_eq] at e
      exact c ⟨e.1, e.2.2⟩
end

end YY

set_option maxRecDepth 100000
set_option maxHeartbeats 4000000
namespace YY
open PySem PySem.Spec PyProof.Rows L2 XX
local macro_rules | `(tactic| walk_at "wp") => `(tactic| simp only [Int.zero_add, L2.start, LcEnd, List.append_nil, List.cons.injEq, List.cons_append, List.getElem?_cons_succ, List.getElem?_cons_zero, List.length_cons, List.length_nil, List.map_cons, List.map_nil, List.nil_append, List.replicate, List.replicate_succ, List.replicate_zero, List.set_cons_succ, List.set_cons_zero, Nat.reduceAdd, Nat.reduceSub, Option.some.injEq, StX.tMakeR, StX.tStar, V.bl.injEq, V.int.injEq, V.ref.injEq, V.str.injEq, V.ty.injEq, WE, and_assoc, and_false, and_true, bool_ite_false, bool_ite_true, cxOf_K, cxOf_noxK, dec_ite, decide_eq_true_eq, exists_and_left, exists_and_right, exists_const, exists_eq_left, exists_eq_left', false_and, false_or, gCons, gName, gNil, gSub, gTup, iEnumA, iItems, iKeys, iList, iRng1, iRng2, iStr, iTup, iZipB, ite_false, ite_true, ndec_ite, or_false, rAppend, rCat, rCatT, rEq, rEqI, rEqK, rEqV, rExt2, rI, rI0, rIn, rInRg, rIndex, rIsD, rIsE, rIsE2, rIxD, rIxL, rIxS, rIxT, rLenI, rLenK, rListStr, rMax, rMaxDef, rSetIM, rEqT, sFldAug, rAdd, rMin, rMulS, rNe, rNeDA, rNeV, rRange1, rRep, rRepA, rReprE, rReprI, rSetD, rSetI, rSetL, rSlL, rSlT, rSortedSet, rU, reduceCtorEq, reduceIte, sFld, tAnd, tAndV, tAsg, tAug, tB, tBM, tBM0, tC, tCB, tCKw, tDGetT, tCall, tCallS, tChain, tCons, tDGet, tDIn, tDNewK, tDNotIn, tDcT_eq, tDc_eq, tDisp, tDrop, tErr, tFld, tFor_eq, tIf, tIfS, tIxI, tLc2_eq, tLc_eq, tLenSetS, tLock, tLockE, tLst, tLstRg, tM1, tMakeRS, tMakeS, tMakeV, tMakeVS, tMeth, tMethX, tMkO, tMulA, tMulD, tNext, tNil, tNoPart, tNot, tNotV, tOp, tOpI, tOpR, tOr, tOrV, tOst, tPairs, tPar, tPar3, tPart, tRet, tRetN, tRevT, tRg2, tSMeth, tSeq, tSl, tTest, tTup, tUn, tVar, tVeI, tXf, tYes, true_and, wAs, wMA, wipe, rSum])
/-! ### _law_whole, _law_is_word, _law_parts_good -/
abbrev sLWhole : Stmt := topS 48
abbrev sLWord : Stmt := topS 49
abbrev sLParts : Stmt := topS 50
def signBad (c : Nat) : Option V := if c ∈ abc.cps.toList then none else some (.str ⟨#[c]⟩)
theorem signBad_list (l : List Nat) : l.filterMap signBad = (l.filter fun c => !decide (c ∈ abc.cps.toList)).map (V.str ∘ fun c => (⟨#[c]⟩ : Str)) := by
  induction l with
  | nil => rfl
  | cons c l ih =>
    rw [List.filterMap_cons, List.filter_cons, ih]
    unfold signBad
    by_cases m : c ∈ abc.cps.toList
    · rw [if_pos m, decide_eq_true m]
      rfl
    · rw [if_neg m, decide_eq_false m]
      rfl
section
variable {P : Program} {w : World} {K : PySem.W.Frag} {mg : Str → Option Value} {base : Heap}
def spLWhole (K : PySem.W.Frag) : Sp := fun vs H Q _ => ∃ (x : V) (d : PyData) (size : Int), vs = [x, .int size] ∧ Dp K H x d ∧ Q (.bl (btw d 0 (size - 1))) H
theorem scLWhole : FnScope ["value", "size"] ["value", "size"] (defScope sLWhole) := ⟨rfl, rfl, rfl, by decide +kernel, rfl, by decide +kernel, by decide +kernel⟩
theorem c_lWhole (D : Def K mg "_law_whole" sLWhole ["value", "size"]) (T : Bl2 mg) : FnC P w K mg base CX0 1 "_law_whole" ["value", "size"] (spLWhole K) := by
  refine D.ok scLWhole (fun vs H Q E h => ?_) (fun f cdv A outer s H vs Q E hr h => ?_)
  · obtain ⟨x, d, size, rfl, _⟩ := h
    rfl
  · obtain ⟨x, d, size, rfl, hx, k⟩ := h
    have sc := scLWhole
    refine ⟨_, (pss_one (ps_ret (pe_and (pe_callB (call_isD ty_int) (by rfl) T.n_isinstance (by decide +kernel) (pa_cons (pv 0) (pa_cons (pe_ty "int" (by rfl) T.n_int) pa_nil))) (pe_and (pe_not (pe_callB (call_isD ty_bool) (by rfl) T.n_isinstance (by decide +kernel) (pa_cons (pv 0) (pa_cons (pe_ty "bool" (by rfl) T.n_bool) pa_nil)))) (L2.pe_one (pe_chain op_le op_lt pe_int (pv 0) (pv 1))))))), ?_⟩
    walk_at "wp"
    refine ⟨d, hx, ?_⟩
    rw [isTy_int]
    cases hx with
    | int i =>
      walk_at "wp"
      refine ⟨_, .int i, ?_⟩
      rw [isTy_bool]
      have k' : Q (.bl (decide (0 ≤ i) && decide (i ≤ size - 1))) H := k
      rw [show decide (i ≤ size - 1) = decide (i < size) from decide_eq_decide.2 (by omega)] at k'
      rw [if_pos (by rfl)]
      refine ite2 (fun c => ?_) fun c => ?_
      · rw [decide_eq_true c] at k'
        exact k'
      · rw [decide_eq_false c] at k'
        exact k'
    | bl b =>
      rw [if_pos (by rfl)]
      refine ⟨_, .bl b, ?_⟩
      rw [isTy_bool]
      exact k
    | _ => exact k
theorem scLWord : FnScope ["value", "sign"] ["value"] (defScope sLWord) := ⟨rfl, rfl, rfl, by decide +kernel, rfl, by decide +kernel, by decide +kernel⟩
theorem c_lWord (D : Def K mg "_law_is_word" sLWord ["value"]) (T : Bl2 mg) : FnC P w K mg base CX0 1 "_law_is_word" ["value"] (spIsWord K) := by
  refine D.ok scLWord (fun vs H Q E h => ?_) (fun f cdv A outer s H vs Q E hr h => ?_)
  · obtain ⟨x, d, rfl, _⟩ := h
    rfl
  · obtain ⟨x, d, rfl, hx, hl, k⟩ := h
    have sc := scLWord
    refine ⟨_, (pss_cons (ps_if (PW.pt (pw_or (pt_not (pt_val (pe_callB (call_isD ty_str) (by rfl) T.n_isinstance (by decide +kernel) (pa_cons (pv 0) (pa_cons (pe_ty "str" (by rfl) T.n_str) pa_nil))))) (pw_or1 (pt_not (pt_chain op_le op_le pe_int (pe_callB call_len_str (by rfl) T.n_len (by decide +kernel) (pa_cons (pv 0) pa_nil)) pe_int))))) (pss_one (ps_ret pe_bl)) pss_nil)
    (pss_one (ps_ret (pe_cmpR (op_eqD hr.units) (pe_lc (own := [("sign", 1)]) (g := gName 1) rfl sc.nd (pi_str (pv 0)) (blkOk_by (N := ["value", "sign"]) (sc := defScope sLWord) (by decide +kernel)) (fun _ _ _ _ _ => (pg_name (i := 1) sc.nd rfl (Or.inl rfl))) (fun _ _ _ _ _ => (pts_one (pt_cmpR op_notIn_sign (pv 1) pe_str (by rfl)))) (fun _ _ _ _ _ => (pv 1))) (pe_lst pa_nil) (nomark _))))), ?_⟩
    walk_at "wp"
    refine ⟨d, hx, ?_⟩
    cases hx with
    | str z =>
      have hz0 := sm_str hl
      have hz : z.length ≤ sizeLine := by
        have e2 := sizeLine_eq
        omega
      have hcode : ∀ c ∈ z.cps.toList, c < 0x110000 := fun c hc => by
        rw [sm, Bool.and_eq_true] at hl
        have h2 := Array.all_eq_true'.mp hl.2 c (Array.mem_def.mpr hc)
        exact of_decide_eq_true h2
      have ew : wordB (.str z) = (decide (1 ≤ z.length) && decide (z.length ≤ 8) && z.cps.toList.all fun c => decide (97 ≤ c ∧ c ≤ 122)) := rfl
      rw [if_neg (show ¬ (!isTy (tyOf (PyData.str z)) "str") = true by rw [isTy_str]; exact Bool.false_ne_true)]
      refine ⟨z, rfl, hz, ite2 (fun a1 => ite2 (fun a2 => ⟨z, rfl, ?_⟩) fun a2 => ?_) fun a1 => ?_⟩
      · refine lcw_gen walk_str (fun i => (z.cps.toList[i]?).bind signBad) (by show z.length ≤ 1000; exact hz0) (fun _ _ => True.intro) ?_ ?_
        · rintro i x G1 G2 Nx Q' hi hG ⟨rfl, c, hc, rfl⟩ q1 q2
          have hc' : z.cps.toList[i]? = some c := by rw [Array.getElem?_toList]; exact hc
          rw [hc'] at q1 q2
          walk_at "wp"
          refine ⟨c, rfl, ?_⟩
          refine ite2 (fun m => ?_) fun m => ?_
          · have m : c ∈ abc.cps.toList := m
            exact q2 (by show signBad c = none; unfold signBad; rw [if_pos m]) _ (Same.refl _)
          · have m : ¬ c ∈ abc.cps.toList := m
            exact q1 _ _ (by show signBad c = _; unfold signBad; rw [if_neg m]) (Same.refl _)
        · rintro D G hG hD hL
          refine ⟨Nat.zero_le _, fun p hp => ?_⟩
          have el : (List.range z.cps.size).filterMap (fun i => (z.cps.toList[i]?).bind signBad) = ((z.cps.toList.filter fun c => !decide (c ∈ abc.cps.toList)).map fun c => (⟨#[c]⟩ : Str)).map V.str := by
            have e1 : z.cps.size = z.cps.toList.length := rfl
            rw [e1, filterMap_bind, List.map_map]
            exact signBad_list _
          rw [el] at hL
          have hL' : upd G p (.lst []) D = some (.lst _) := (upd_ne (ne_of_none hL hp)).trans hL
          refine ⟨.list ((((z.cps.toList.filter fun c => !decide (c ∈ abc.cps.toList)).map fun c => (⟨#[c]⟩ : Str))).map PyData.str), .list [], .lst (SqL.of hL') (dpAll_strs _), .lst (SqL.of upd_same) .nil, ?_, rfl, ?_⟩
          · refine sm_shaped ?_ (by rw [PyData.depth, depth_strs]; decide)
            rw [sm, Bool.and_eq_true]
            refine ⟨decide_eq_true ?_, sms_of fun d hd => ?_⟩
            · rw [List.length_map, List.length_map]
              have e3 := List.length_filter_le (fun c => !decide (c ∈ abc.cps.toList)) z.cps.toList
              have e4 : z.cps.toList.length = z.length := rfl
              omega
            · obtain ⟨y, hy, rfl⟩ := List.mem_map.mp hd
              obtain ⟨c, hc, rfl⟩ := List.mem_map.mp hy
              have hc2 := hcode c (List.mem_filter.mp hc).1
              rw [sm, Bool.and_eq_true]
              exact ⟨rfl, by simpa using hc2⟩
          · have e5 : PyData.eqv (.list ((((z.cps.toList.filter fun c => !decide (c ∈ abc.cps.toList)).map fun c => (⟨#[c]⟩ : Str))).map PyData.str)) (.list []) = wordB (.str z) := by
              rw [ew, decide_eq_true (show 1 ≤ z.length by omega), decide_eq_true (show z.length ≤ 8 by omega), eqv_nil, List.map_map]
              have e6 : z.cps.toList.all (fun c => decide (97 ≤ c ∧ c ≤ 122)) = z.cps.toList.all fun c => decide (c ∈ abc.cps.toList) := by
                congr 1
                funext c
                exact decide_eq_decide.mpr (abc_mem c).symm
              rw [e6, Bool.true_and, Bool.true_and]
              exact filter_empty _ _ _
            rw [e5]
            exact k _ (hG.trans (same_new hp))
      · have e : wordB (.str z) = false := by rw [ew, decide_eq_false (show ¬ z.length ≤ 8 by omega), Bool.and_false, Bool.false_and]
        rw [e] at k
        exact k _ (Same.refl H)
      · rw [if_pos (by rfl)]
        have e : wordB (.str z) = false := by rw [ew, decide_eq_false (show ¬ 1 ≤ z.length by omega), Bool.false_and, Bool.false_and]
        rw [e] at k
        exact k _ (Same.refl H)
    | non => exact k _ (Same.refl H)
    | bl b => exact k _ (Same.refl H)
    | int i => exact k _ (Same.refl H)
    | lst _ _ => exact k _ (Same.refl H)
    | tup _ _ => exact k _ (Same.refl H)
end

end YY

set_option maxRecDepth 100000
set_option maxHeartbeats 4000000
namespace YY
open PySem PySem.Spec PyProof.Rows L2 XX
local macro_rules | `(tactic| walk_at "wp") => `(tactic| simp only [Int.zero_add, L2.start, LcEnd, List.append_nil, List.cons.injEq, List.cons_append, List.getElem?_cons_succ, List.getElem?_cons_zero, List.length_cons, List.length_nil, List.map_cons, List.map_nil, List.nil_append, List.replicate, List.replicate_succ, List.replicate_zero, List.set_cons_succ, List.set_cons_zero, Nat.reduceAdd, Nat.reduceSub, Option.some.injEq, StX.tMakeR, StX.tStar, V.bl.injEq, V.int.injEq, V.ref.injEq, V.str.injEq, V.ty.injEq, WE, and_assoc, and_false, and_true, bool_ite_false, bool_ite_true, cxOf_K, cxOf_noxK, dec_ite, decide_eq_true_eq, exists_and_left, exists_and_right, exists_const, exists_eq_left, exists_eq_left', false_and, false_or, gCons, gName, gNil, gSub, gTup, iEnumA, iItems, iKeys, iList, iRng1, iRng2, iStr, iTup, iZipB, ite_false, ite_true, ndec_ite, or_false, rAppend, rCat, rCatT, rEq, rEqI, rEqK, rEqV, rExt2, rI, rI0, rIn, rInRg, rIndex, rIsD, rIsE, rIsE2, rIxD, rIxL, rIxS, rIxT, rLenI, rLenK, rListStr, rMax, rMaxDef, rSetIM, rEqT, sFldAug, rAdd, rMin, rMulS, rNe, rNeDA, rNeV, rRange1, rRep, rRepA, rReprE, rReprI, rSetD, rSetI, rSetL, rSlL, rSlT, rSortedSet, rU, reduceCtorEq, reduceIte, sFld, tAnd, tAndV, tAsg, tAug, tB, tBM, tBM0, tC, tCB, tCKw, tDGetT, tCall, tCallS, tChain, tCons, tDGet, tDIn, tDNewK, tDNotIn, tDcT_eq, tDc_eq, tDisp, tDrop, tErr, tFld, tFor_eq, tIf, tIfS, tIxI, tLc2_eq, tLc_eq, tLenSetS, tLock, tLockE, tLst, tLstRg, tM1, tMakeRS, tMakeS, tMakeV, tMakeVS, tMeth, tMethX, tMkO, tMulA, tMulD, tNext, tNil, tNoPart, tNot, tNotV, tOp, tOpI, tOpR, tOr, tOrV, tOst, tPairs, tPar, tPar3, tPart, tRet, tRetN, tRevT, tRg2, tSMeth, tSeq, tSl, tTest, tTup, tUn, tVar, tVeI, tXf, tYes, true_and, wAs, wMA, wipe, rSum])
/-! ### _law_parts_good -/
def lawTab : List (Key × V) := [(.inr "set", .str "rv"), (.inr "copy", .str "rr"), (.inr "take", .str "r"), (.inr "meet", .str "w"), (.inr "any", .str "rvr"), (.inr "all", .str "rvr"), (.inr "same", .str "rr"), (.inr "group", .str "w"), (.inr "leave", .str "rv"), (.inr "if", .str "rvbb"), (.inr "while", .str "rvb")]
theorem tab_find (z : Str) : ∀ {t : List (Str × List Nat)} {u : List (Key × V)}, Paired (fun (e : Str × List Nat) (k : Key × V) => k.1 = .inr e.1 ∧ ∃ sg : Str, k.2 = .str sg ∧ sg.cps.toList = e.2 ∧ sg.length ≤ 10) t u → ((t.find? fun e => e.1 == z) = none ∧ valV u (.inr z) = none) ∨ ∃ cs sg, (t.find? fun e => e.1 == z).map Prod.snd = some cs ∧ valV u (.inr z) = some (.str sg) ∧ sg.cps.toList = cs ∧ sg.length ≤ 10
  | _, _, .nil => .inl ⟨rfl, rfl⟩
  | (y, cs) :: t, (k, v) :: u, .cons ⟨h1, sg, h2, h3, h4⟩ r => by
    have h1 : k = .inr y := h1
    have h2 : v = .str sg := h2
    subst h1 h2
    by_cases c : y = z
    · subst c
      refine .inr ⟨cs, sg, ?_, ?_, h3, h4⟩
      · rw [List.find?_cons_of_pos (by simp)]
        rfl
      · unfold valV
        rw [List.find?_cons_of_pos (by simp)]
        rfl
    · have e1 : ((y, cs) :: t).find? (fun e => e.1 == z) = t.find? fun e => e.1 == z := List.find?_cons_of_neg (by simpa using c)
      have e2 : valV ((.inr y, .str sg) :: u) (.inr z) = valV u (.inr z) := by
        unfold valV
        rw [List.find?_cons_of_neg (by simpa using c)]
      rw [e1, e2]
      exact tab_find z r
theorem tab_of (z : Str) : (signsOf z = none ∧ valV lawTab (.inr z) = none) ∨ ∃ cs sg, signsOf z = some cs ∧ valV lawTab (.inr z) = some (.str sg) ∧ sg.cps.toList = cs ∧ sg.length ≤ 10 := by
  have hp : Paired (fun (e : Str × List Nat) (k : Key × V) => k.1 = .inr e.1 ∧ ∃ sg : Str, k.2 = .str sg ∧ sg.cps.toList = e.2 ∧ sg.length ≤ 10) sgnTab lawTab := by
    unfold sgnTab lawTab
    repeat (first | exact .nil | refine .cons ⟨rfl, _, rfl, by decide +kernel, by decide +kernel⟩ ?_)
  rcases tab_find z hp with ⟨a, b⟩ | h
  · exact .inl ⟨by unfold signsOf; rw [a]; rfl, b⟩
  · exact .inr h
section
variable {rs : List Str} {size : Int}
theorem lps_len : ∀ {cs : List Nat} {ps : List PyData}, ps.length ≠ cs.length → lpsB rs size cs ps = false
  | [], [], h => absurd rfl h
  | [], _ :: _, _ => rfl
  | _ :: _, [], _ => rfl
  | c :: cs, p :: ps, h => by
    rw [lpsB, lps_len (cs := cs) (ps := ps) (fun e => h (congrArg (· + 1) e)), Bool.and_false]
theorem lps_bad : ∀ {cs : List Nat} {ps : List PyData} {i c : Nat} {p : PyData}, ps[i]? = some p → cs[i]? = some c → lpB rs size c p = false → lpsB rs size cs ps = false
  | _, [], i, c, p, h, _, _ => by simp at h
  | [], _ :: _, i, c, p, _, h, _ => by simp at h
  | c0 :: cs, p0 :: ps, 0, c, p, h1, h2, e => by
    cases h1
    cases h2
    rw [lpsB, e, Bool.false_and]
  | c0 :: cs, p0 :: ps, i + 1, c, p, h1, h2, e => by
    rw [lpsB, lps_bad (ps := ps) (cs := cs) (i := i) h1 h2 e, Bool.and_false]
theorem lps_good : ∀ {cs : List Nat} {ps : List PyData}, ps.length = cs.length → (∀ (i : Nat) p c, ps[i]? = some p → cs[i]? = some c → lpB rs size c p = true) → lpsB rs size cs ps = true
  | [], [], _, _ => rfl
  | [], _ :: _, e, _ => nomatch e
  | _ :: _, [], e, _ => nomatch e
  | c :: cs, p :: ps, e, h => by
    rw [lpsB, h 0 p c rfl rfl, lps_good (Nat.succ.inj e) fun i p n h1 h2 => h (i + 1) p n h1 h2]
    rfl
end
theorem isTy_tupD (d : PyData) : isTy (tyOf d) "tuple" = isTupD d := by cases d <;> rfl
theorem signs_in {z : Str} {cs : List Nat} (h : signsOf z = some cs) : ∀ c ∈ cs, c = 114 ∨ c = 118 ∨ c = 98 ∨ c = 119 := by
  unfold signsOf at h
  obtain ⟨e, he, rfl⟩ := Option.map_eq_some_iff.1 h
  have hm := List.mem_of_find?_eq_some he
  have key : ∀ e ∈ sgnTab, ∀ c ∈ e.2, c = 114 ∨ c = 118 ∨ c = 98 ∨ c = 119 := by decide +kernel
  exact key e hm
theorem one_is (c k : Nat) : (⟨#[c]⟩ : Str) = ⟨#[k]⟩ ↔ c = k := ⟨fun h => by injection h with e; injection e with e; injection e, fun h => by rw [h]⟩
section
variable {P : Program} {w : World} {K : PySem.W.Frag} {mg : Str → Option Value} {base : Heap}
def spLParts (K : PySem.W.Frag) : Sp := fun vs H Q _ => ∃ (x : V) (d : PyData) (wa : Addr) (rs : List Str) (size : Int), vs = [x, .ref wa, .int size] ∧ Dp K H x d ∧ sm d = true ∧ d.depth ≤ 60 ∧ SqT K H wa (rs.map V.str) ∧ (∀ z ∈ rs, wordS z = true) ∧
  ∀ H', Same H H' → Q (.bl (lgP rs size d)) H'
theorem scLParts : FnScope ["one", "words", "size", "forms", "sign", "part"] ["one", "words", "size"] (defScope sLParts) := ⟨rfl, rfl, rfl, by decide +kernel, rfl, by decide +kernel, by decide +kernel⟩
theorem c_lParts (D : Def K mg "_law_parts_good" sLParts ["one", "words", "size"]) (T : Bl2 mg) (cW : FnC P w K mg base CX0 1 "_law_whole" ["value", "size"] (spLWhole K)) (cD : FnC P w K mg base CX0 1 "_law_is_word" ["value"] (spIsWord K)) :
    FnC P w K mg base CX0 2 "_law_parts_good" ["one", "words", "size"] (spLParts K) := by
  refine D.ok scLParts (fun vs H Q E h => ?_) (fun f cdv A outer s H vs Q E hr h => ?_)
  · obtain ⟨x, d, wa, rs, size, rfl, _⟩ := h
    rfl
  · obtain ⟨x, d, wa, rs, size, rfl, hx, hl, hd, hR, hw, k⟩ := h
    have sc := scLParts
    have hu := hu_of hr
    refine ⟨_, (pss_cut (ps_set (i := 3) sc.nd rfl (Or.inl rfl) (pe_disp (pps_cons pe_str pe_str (pps_cons pe_str pe_str (pps_cons pe_str pe_str (pps_cons pe_str pe_str (pps_cons pe_str pe_str (pps_cons pe_str pe_str (pps_cons pe_str pe_str pps_nil))))))) rfl rfl (by decide) (by decide)))
    (pss_cut (ps_asg (pe_tup (pa_cons pe_str (pa_cons pe_str (pa_cons pe_str (pa_cons pe_str pa_nil))))) (pg_tup (by rfl) (pgs_cons (pg_sub (pv 3) pe_str (set_dict hu)) (pgs_cons (pg_sub (pv 3) pe_str (set_dict hu)) (pgs_cons (pg_sub (pv 3) pe_str (set_dict hu)) (pgs_cons (pg_sub (pv 3) pe_str (set_dict hu)) pgs_nil))))))
    (pss_cut (ps_if (PW.pt (pw_or (pt_not (pt_val (pe_callB (call_isD ty_tuple) (by rfl) T.n_isinstance (by decide +kernel) (pa_cons (pv 0) (pa_cons (pe_ty "tuple" (by rfl) T.n_tuple) pa_nil))))) (pw_or (pt_cmpR (op_eqD hr.units) (pv 0) (pe_tup pa_nil) (nomark _)) (pw_or (pt_not (pt_val (pe_callB (call_isD ty_str) (by rfl) T.n_isinstance (by decide +kernel) (pa_cons (pe_ix ix_tup (pv 0) pe_int (fun _ _ => rfl)) (pa_cons (pe_ty "str" (by rfl) T.n_str) pa_nil))))) (pw_or1 (pt_cmp (pc_dnotin hu (pe_ix ix_tup (pv 0) pe_int (fun _ _ => rfl)) (pv 3)) (by rfl))))))) (pss_one (ps_ret pe_bl)) pss_nil)
    (pss_cut (ps_if (pt_cmpR op_ne (pe_callB call_len_seq (by rfl) T.n_len (by decide +kernel) (pa_cons (pv 0) pa_nil)) (pe_op op_add pe_int (pe_callB call_len_str (by rfl) T.n_len (by decide +kernel) (pa_cons (pe_dget hu (pv 3) (pe_ix ix_tup (pv 0) pe_int (fun _ _ => rfl)) (fun _ _ => rfl)) pa_nil))) (nomark _)) (pss_one (ps_ret pe_bl)) pss_nil)
    (pss_cons (ps_for PassesOwn.never rfl (pi_zipB false true (by rfl) T.n_zip (pa_cons (pe_callTy (call_listStr rfl) (by rfl) T.n_list (by decide +kernel) (pa_cons (pe_dget hu (pv 3) (pe_ix ix_tup (pv 0) pe_int (fun _ _ => rfl)) (fun _ _ => rfl)) pa_nil)) (pa_cons (pe_slice sl_tupA (pv 0) (po_some pe_int) po_none) pa_nil))) (pg_tup (by rfl) (pgs_cons (pg_name (i := 4) sc.nd rfl (Or.inl rfl)) (pgs_cons (pg_name (i := 5) sc.nd rfl (Or.inl rfl)) pgs_nil)))
      (pss_cut (ps_if (PW.pt (pw_or (PW.pt (pw_and (pt_cmpR op_eq (pv 4) pe_str (nomark _)) (pw_and1 (PW.pt (pw_or (pt_not (pt_val (pe_c cD hr rfl (pa_cons (pv 5) pa_nil)))) (pw_or1 (pt_cmpR op_notIn_seq (pv 5) (pv 1) (by rfl)))))))) (pw_or1 (PW.pt (pw_and (pt_cmpR op_eq (pv 4) pe_str (nomark _)) (pw_and1 (pt_not (pt_val (pe_c cD hr rfl (pa_cons (pv 5) pa_nil)))))))))) (pss_one (ps_ret pe_bl)) pss_nil)
      (pss_one (ps_if (PW.pt (pw_or (PW.pt (pw_and (pt_cmpR op_eq (pv 4) pe_str (nomark _)) (pw_and1 (pt_not (pt_val (pe_c cW hr rfl (pa_cons (pv 5) (pa_cons (pv 2) pa_nil)))))))) (pw_or1 (PW.pt (pw_and (pt_cmpR op_eq (pv 4) pe_str (nomark _)) (pw_and1 (pt_not (pt_val (pe_callB (call_isD ty_tuple) (by rfl) T.n_isinstance (by decide +kernel) (pa_cons (pv 5) (pa_cons (pe_ty "tuple" (by rfl) T.n_tuple) pa_nil))))))))))) (pss_one (ps_ret pe_bl)) pss_nil))))
    (pss_one (ps_ret pe_bl))))))), ?_⟩
    refine ⟨fun τ G => ∃ fa, τ = [some x, some (.ref wa), some (.int size), some (.ref fa), none, none] ∧ Same H G ∧ H fa = none ∧ G fa = some (.dK (lawTab.take 7)), ?_, ?_⟩
    · walk_at "wp"
      intro p hp
      refine ⟨upd_same, lawTab.take 7, rfl, by decide, same_mut (same_new hp) hp, hp, ?_⟩
      rw [upd_same]
      rfl
    rintro τ G ⟨fa, rfl, g1, hfa, hG⟩
    refine ⟨fun τ G => τ = [some x, some (.ref wa), some (.int size), some (.ref fa), none, none] ∧ Same H G ∧ G fa = some (.dK lawTab), ?_, ?_⟩
    · walk_at "wp"
      refine ⟨by decide, fun p hp => ⟨_, SqT.of upd_same, rfl, _, _, rfl, _, .inl ⟨lawTab.take 7, .inr "group", (upd_ne (ne_of_none hG hp)).trans hG, rfl, by decide, rfl⟩, _, _, rfl, _, .inl ⟨_, .inr "leave", upd_same, rfl, by decide, rfl⟩, _, _, rfl, _, .inl ⟨_, .inr "if", upd_same, rfl, by decide, rfl⟩, _, _, rfl, _, .inl ⟨_, .inr "while", upd_same, rfl, by decide, rfl⟩, rfl, ?_, ?_⟩⟩
      · exact same_mut (same_mut (same_mut (same_mut (g1.trans (same_new hp)) hfa) hfa) hfa) hfa
      · rw [upd_same]
        rfl
    clear g1 hG G
    rintro τ G ⟨rfl, g1, hG⟩
    have hx1 := dp_same g1 _ _ hx
    have hR1 := Same.sqT g1 hR
    cases hx1 with
    | @tup a xs ds hs ha =>
      have sh : SeqAt.shaped (PyData.tuple ds) = true := sm_shaped hl (by omega)
      obtain ⟨sm0, sm1⟩ := sm_tup hl
      have nt : ¬ (!isTy (tyOf (PyData.tuple ds)) "tuple") = true := by rw [isTy_tuple]; exact Bool.false_ne_true
      cases ha with
      | nil =>
        refine ⟨fun _ _ => False, ?_, fun _ _ h => h.elim⟩
        walk_at "wp"
        refine ⟨_, .tup hs .nil, ?_⟩
        rw [if_neg nt]
        refine ⟨Nat.zero_le _, fun p hp => ⟨.tuple [], .tuple [], .tup (Same.sqT (same_new hp) hs) .nil, .tup (SqT.of upd_same) .nil, sh, rfl, true, rfl, ?_⟩⟩
        rw [if_pos rfl]
        exact k _ (g1.trans (same_new hp))
      | @cons v vs e ps h1 h2 =>
        refine ⟨fun τ G' => τ = [some (.ref a), some (.ref wa), some (.int size), some (.ref fa), none, none] ∧ Same H G' ∧ G' fa = some (.dK lawTab) ∧ SqT K G' a (v :: vs) ∧ DpAll K G' vs ps ∧ ∃ z cs sg, v = .str z ∧ e = .str z ∧ signsOf z = some cs ∧ valV lawTab (.inr z) = some (.str sg) ∧ sg.cps.toList = cs ∧ sg.length ≤ 10, ?_, ?_⟩
        · walk_at "wp"
          refine ⟨_, .tup hs (.cons h1 h2), ?_⟩
          rw [if_neg nt]
          refine ⟨Nat.zero_le _, fun p hp => ?_⟩
          have s1 : Same G (upd G p (.tup [])) := same_new hp
          have hs2 := Same.sqT s1 hs
          refine ⟨.tuple (e :: ps), .tuple [], .tup hs2 (dps_same s1 _ _ (.cons h1 h2)), .tup (SqT.of upd_same) .nil, sh, rfl, false, rfl, ?_⟩
          rw [if_neg Bool.false_ne_true]
          refine ⟨_, hs2, v, at_of (j := 0) rfl rfl, e, dp_same s1 _ _ h1, ?_⟩
          cases h1 with
          | str z =>
            rw [if_neg (show ¬ (!isTy (tyOf (PyData.str z)) "str") = true by rw [isTy_str]; exact Bool.false_ne_true)]
            refine ⟨_, hs2, .str z, at_of (j := 0) rfl rfl, valV lawTab (.inr z), .inl ⟨lawTab, .inr z, .inl ((upd_ne (ne_of_none hG hp)).trans hG), rfl, rfl⟩, ?_⟩
            rcases tab_of z with ⟨e1, e2⟩ | ⟨cs, sg, e1, e2, e3, e4⟩
            · rw [e2, if_pos (show (!(none : Option V).isSome) = true from rfl)]
              have e5 : lgP rs size (.tuple (.str z :: ps)) = false := by
                show lgZ rs size z ps = false
                unfold lgZ
                rw [e1]
              rw [e5] at k
              exact k _ (g1.trans s1)
            · rw [e2, if_neg (show ¬ (!(some (V.str sg)).isSome) = true from Bool.false_ne_true)]
              exact ⟨g1.trans s1, (upd_ne (ne_of_none hG hp)).trans hG, hs2, dps_same s1 _ _ h2, z, rfl, rfl, cs, e1, sg, e2, e3, e4⟩
          | _ => exact k _ (g1.trans s1)
        · rintro τ G' ⟨rfl, g2, hG', hs', h2', z, cs, sg, rfl, rfl, e1, e2, e3, e4⟩
          have e5 : lgP rs size (.tuple (.str z :: ps)) = lpsB rs size cs ps := by
            show lgZ rs size z ps = _
            unfold lgZ
            rw [e1]
          rw [e5] at k
          have hl2 := dpAll_len h2'
          have hget : DGet G' fa (.str z) (some (.str sg)) := .inl ⟨lawTab, .inr z, .inl hG', rfl, e2.symm⟩
          have hsl : sg.length ≤ sizeLine := by
            have e6 := sizeLine_eq
            omega
          have hns : sg.length = cs.length := by
            have e6 : sg.cps.toList.length = cs.length := by rw [e3]
            exact e6
          refine ⟨fun τ G2 => τ = [some (.ref a), some (.ref wa), some (.int size), some (.ref fa), none, none] ∧ G2 = G' ∧ ps.length = cs.length, ?_, ?_⟩
          · walk_at "wp"
            refine ⟨_, .inr hs', _, hs', _, at_of (j := 0) rfl rfl, .str sg, hget, sg, rfl, hsl, rfl, ?_⟩
            rw [List.length_cons]
            refine ite2 (fun c => ?_) fun c => ?_
            · omega
            · rw [lps_len (by omega)] at k
              exact k _ g2
          · rintro τ G2 ⟨rfl, rfl, hpn⟩
            walk_at "wp"
            refine ⟨_, hs', _, at_of (j := 0) rfl rfl, .str sg, hget, sg, rfl, hsl, fun l hl1 => sl_res (Same.sqT (same_new hl1) hs') fun r G3 e3' hr3 => ?_⟩
            rw [cut_tail] at hr3
            have s3 : Same G2 G3 := (same_new hl1).trans e3'
            have hL3 : SqL K G3 l (sg.cps.toList.map fun c => V.str ⟨#[c]⟩) := Same.sqL e3' (SqL.of upd_same)
            rw [e3] at hL3
            refine ⟨r, rfl, ⟨_, hL3⟩, ⟨_, hr3⟩, ?_⟩
            refine loop_it (walk_zipB (t := false) (u := true) (xs := cs.map fun c => V.str ⟨#[c]⟩) (ys := vs) (by rw [List.length_map]; omega))
              (fun i τ G => ∃ u1 u2, τ = [some (.ref a), some (.ref wa), some (.int size), some (.ref fa), u1, u2] ∧ Same G3 G ∧ ∀ (j : Nat) p c, j < i → ps[j]? = some p → cs[j]? = some c → lpB rs size c p = true)
              ⟨none, none, rfl, Same.refl _, fun j p n h => by omega⟩ (fun i τ G _ ⟨_, _, _, e, _⟩ => ⟨Same.sqL e hL3, Same.sqT e hr3⟩) ?_ ?_
            · rintro i x τ G4 G5 hi ⟨u1, u2, rfl, g4, ok⟩ ⟨q, x1, x2, rfl, hq, rfl, hx1, hx2⟩
              obtain ⟨pd, hp, hpd⟩ := dpAll_get h2' hx2
              have hx1 : (cs.map fun c => V.str ⟨#[c]⟩)[i]? = some x1 := hx1
              rw [List.getElem?_map] at hx1
              obtain ⟨c, hc, rfl⟩ := Option.map_eq_some_iff.mp hx1
              have s5 : Same G2 (upd G4 q (.tup [V.str ⟨#[c]⟩, x2])) := (s3.trans g4).trans (same_new hq)
              have hpd5 := dp_same s5 _ _ hpd
              have sp := sms_mem sm1 (List.mem_cons_of_mem _ (List.mem_of_getElem? hp))
              generalize hG5 : upd G4 q (.tup [V.str ⟨#[c]⟩, x2]) = G5 at s5 hpd5
              have s05 : Same H G5 := g2.trans s5
              have g5 : Same G3 G5 := by
                rw [← hG5]
                exact g4.trans (same_new hq)
              have hT5 : SqT K G5 q [V.str ⟨#[c]⟩, x2] := by
                rw [← hG5]
                exact SqT.of upd_same
              have hW5 := Same.sqT s05 hR
              have bad : lpB rs size c pd = false → ∀ G6, Same H G6 → Q (.bl false) G6 := fun e G6 h6 => by
                rw [lps_bad hp hc e] at k
                exact k G6 h6
              clear hG5
              walk_at "wp"
              refine ⟨_, hT5, rfl, _, _, rfl, _, _, rfl, rfl, ?_⟩
              have wdc : ∀ (G : Hp) (Q' : VK), Same G5 G → (∀ H', Same G5 H' → Q' (.bl (wordB pd)) H') → spIsWord K [x2] G Q' E0 := fun G Q' g q => ⟨x2, pd, rfl, dp_same g _ _ hpd5, sp, fun H' h => q H' (g.trans h)⟩
              have l1 : c = 114 → lpB rs size c pd = placeB rs pd := fun e => by rw [e]; rfl
              have l2 : c = 118 → lpB rs size c pd = btw pd 0 (size - 1) := fun e => by rw [e]; rfl
              have l3 : c = 98 → lpB rs size c pd = isTupD pd := fun e => by rw [e]; rfl
              have l4 : c = 119 → lpB rs size c pd = wordB pd := fun e => by rw [e]; rfl
              refine cut_hide (fun τ G6 => τ = [some (V.ref a), some (V.ref wa), some (V.int size), some (V.ref fa), some (V.str ⟨#[c]⟩), some x2] ∧ Same G5 G6 ∧ (c = 114 ∨ c = 119 → lpB rs size c pd = true)) (fun M' hM => ?_) ?_
              · walk_at "wp"
                refine ⟨rfl, ite2 (fun h1 => ?_) fun h1 => ?_⟩
                · have c' := (one_is c 114).1 h1
                  have ep := l1 c'
                  refine wdc _ _ (Same.refl _) fun H' h' => ⟨_, rfl, ?_⟩
                  cases ew : wordB pd with
                  | false =>
                    rw [if_pos (show (!false) = true from rfl)]
                    refine bad ?_ _ (s05.trans h')
                    rw [ep]
                    cases pd with
                    | str z =>
                      refine decide_eq_false fun m => ?_
                      have e8 : wordB (.str z) = true := hw z m
                      rw [ew] at e8
                      cases e8
                    | _ => rfl
                  | true =>
                    rw [if_neg (show ¬ (!true) = true from Bool.false_ne_true)]
                    obtain ⟨z, rfl⟩ := wordB_str ew
                    cases hpd5
                    refine ⟨_, .inr (Same.sqT h' hW5), rfl, by rw [List.all_map]; exact List.all_eq_true.mpr fun _ _ => rfl, ?_⟩
                    rw [inV_strs]
                    by_cases m : z ∈ rs
                    · rw [decide_eq_true m]
                      refine Eq.mpr (if_neg Bool.false_ne_true) ⟨rfl, ite2 (fun h2 => ?_) fun h2 => hM _ _ ⟨rfl, h', fun _ => by rw [ep]; exact decide_eq_true m⟩⟩
                      have h2' := (one_is c 119).1 h2
                      omega
                    · rw [decide_eq_false m]
                      exact bad (by rw [ep]; exact decide_eq_false m) _ (s05.trans h')
                · refine ⟨rfl, ite2 (fun h2 => ?_) fun h2 => hM _ _ ⟨rfl, Same.refl _, fun e => ?_⟩⟩
                  · have ep := l4 ((one_is c 119).1 h2)
                    refine wdc _ _ (Same.refl _) fun H' h' => ⟨_, rfl, ?_⟩
                    cases ew : wordB pd with
                    | false => exact bad (by rw [ep, ew]) _ (s05.trans h')
                    | true => exact hM _ _ ⟨rfl, h', fun _ => by rw [ep, ew]⟩
                  · rcases e with e | e
                    · exact absurd ((one_is c 114).2 e) h1
                    · exact absurd ((one_is c 119).2 e) h2
              rintro τ G6 ⟨rfl, g6, f1⟩
              have fin : ∀ {G8 : Hp}, Same G5 G8 → (c = 118 → lpB rs size c pd = true) → (c = 98 → lpB rs size c pd = true) → Same G3 G8 ∧ ∀ (j : Nat) (p : PyData) (m : Nat), j < i + 1 → ps[j]? = some p → cs[j]? = some m → lpB rs size m p = true := fun {G8} g8 f2 f3 => ⟨g5.trans g8, fun j p m hj h1 h2 => by
                by_cases hji : j < i
                · exact ok j p m hji h1 h2
                · have e : j = i := by omega
                  subst e
                  rw [hp] at h1
                  rw [hc] at h2
                  cases h1
                  cases h2
                  rcases signs_in e1 c (List.mem_of_getElem? hc) with e | e | e | e
                  · exact f1 (.inl e)
                  · exact f2 e
                  · exact f3 e
                  · exact f1 (.inr e)⟩
              walk_at "wp"
              have tst : ∀ {G8 : Hp}, Same G5 G8 → (c = 118 → lpB rs size c pd = true) → (scal (V.str ⟨#[c]⟩) (V.str (Str.ofString "b")) = true ∧ if (⟨#[c]⟩ : Str) = Str.ofString "b" then ∃ x, Dp K G8 x2 x ∧ if (!isTy (tyOf x) "tuple") = true then Q (V.bl false) G8 else (∃ x, some (V.str ⟨#[c]⟩) = x) ∧ (∃ x, some x2 = x) ∧ Same G3 G8 ∧ ∀ (j : Nat) (p : PyData) (c : Nat), j < i + 1 → ps[j]? = some p → cs[j]? = some c → lpB rs size c p = true
                  else (∃ x, some (V.str ⟨#[c]⟩) = x) ∧ (∃ x, some x2 = x) ∧ Same G3 G8 ∧ ∀ (j : Nat) (p : PyData) (c : Nat), j < i + 1 → ps[j]? = some p → cs[j]? = some c → lpB rs size c p = true) := fun {G8} g8 f2 => by
                refine ⟨rfl, ite2 (fun h2 => ⟨pd, dp_same g8 _ _ hpd5, ?_⟩) fun h2 => ⟨⟨_, rfl⟩, ⟨_, rfl⟩, fin g8 f2 fun e => absurd ((one_is c 98).2 e) h2⟩⟩
                have ep := l3 ((one_is c 98).1 h2)
                rw [isTy_tupD]
                cases ht : isTupD pd with
                | true => exact ⟨⟨_, rfl⟩, ⟨_, rfl⟩, fin g8 f2 fun _ => by rw [ep, ht]⟩
                | false => exact bad (by rw [ep, ht]) _ (s05.trans g8)
              refine ⟨rfl, ite2 (fun h1 => ?_) fun h1 => tst g6 fun e => absurd ((one_is c 118).2 e) h1⟩
              have ep := l2 ((one_is c 118).1 h1)
              refine ⟨x2, pd, size, rfl, dp_same g6 _ _ hpd5, _, rfl, ?_⟩
              cases eb : btw pd 0 (size - 1) with
              | false => exact bad (by rw [ep, eb]) _ (s05.trans g6)
              | true => exact tst g6 fun _ => by rw [ep, eb]
            · rintro τ G ⟨u1, u2, rfl, g4, ok⟩
              walk_at "wp"
              have e9 : lpsB rs size cs ps = true := lps_good hpn fun i p c h1 h2 => ok i p c (by rw [List.length_map]; exact (List.getElem?_eq_some_iff.mp h2).1) h1 h2
              rw [e9] at k
              exact k _ ((g2.trans s3).trans g4)
    | non =>
      refine cut_hide (fun _ _ => False) (fun M' hM => ?_) fun _ _ h => h.elim
      walk_at "wp"
      exact ⟨_, .non, Eq.mpr (if_pos rfl) (k _ g1)⟩
    | bl b =>
      refine cut_hide (fun _ _ => False) (fun M' hM => ?_) fun _ _ h => h.elim
      walk_at "wp"
      exact ⟨_, .bl b, Eq.mpr (if_pos rfl) (k _ g1)⟩
    | int i =>
      refine cut_hide (fun _ _ => False) (fun M' hM => ?_) fun _ _ h => h.elim
      walk_at "wp"
      exact ⟨_, .int i, Eq.mpr (if_pos rfl) (k _ g1)⟩
    | str z =>
      refine cut_hide (fun _ _ => False) (fun M' hM => ?_) fun _ _ h => h.elim
      walk_at "wp"
      exact ⟨_, .str z, Eq.mpr (if_pos rfl) (k _ g1)⟩
    | lst h1 h2 =>
      refine cut_hide (fun _ _ => False) (fun M' hM => ?_) fun _ _ h => h.elim
      walk_at "wp"
      exact ⟨_, .lst h1 h2, Eq.mpr (if_pos rfl) (k _ g1)⟩
end

end YY

set_option maxRecDepth 100000
set_option maxHeartbeats 4000000
namespace YY
open PySem PySem.Spec PyProof.Rows L2 XX
local macro_rules | `(tactic| walk_at "wp") => `(tactic| simp only [Int.zero_add, L2.start, LcEnd, List.append_nil, List.cons.injEq, List.cons_append, List.getElem?_cons_succ, List.getElem?_cons_zero, List.length_cons, List.length_nil, List.map_cons, List.map_nil, List.nil_append, List.replicate, List.replicate_succ, List.replicate_zero, List.set_cons_succ, List.set_cons_zero, Nat.reduceAdd, Nat.reduceSub, Option.some.injEq, StX.tMakeR, StX.tStar, V.bl.injEq, V.int.injEq, V.ref.injEq, V.str.injEq, V.ty.injEq, WE, and_assoc, and_false, and_true, bool_ite_false, bool_ite_true, cxOf_K, cxOf_noxK, dec_ite, decide_eq_true_eq, exists_and_left, exists_and_right, exists_const, exists_eq_left, exists_eq_left', false_and, false_or, gCons, gName, gNil, gSub, gTup, iEnumA, iItems, iKeys, iList, iRng1, iRng2, iStr, iTup, iZipB, ite_false, ite_true, ndec_ite, or_false, rAppend, rCat, rCatT, rEq, rEqI, rEqK, rEqV, rExt2, rI, rI0, rIn, rInRg, rIndex, rIsD, rIsE, rIsE2, rIxD, rIxL, rIxS, rIxT, rLenI, rLenK, rListStr, rMax, rMaxDef, rSetIM, rEqT, sFldAug, rAdd, rMin, rMulS, rNe, rNeDA, rNeV, rRange1, rRep, rRepA, rReprE, rReprI, rSetD, rSetI, rSetL, rSlL, rSlT, rSortedSet, rU, reduceCtorEq, reduceIte, sFld, tAnd, tAndV, tAsg, tAug, tB, tBM, tBM0, tC, tCB, tCKw, tDGetT, tCall, tCallS, tChain, tCons, tDGet, tDIn, tDNewK, tDNotIn, tDcT_eq, tDc_eq, tDisp, tDrop, tErr, tFld, tFor_eq, tIf, tIfS, tIxI, tLc2_eq, tLc_eq, tLenSetS, tLock, tLockE, tLst, tLstRg, tM1, tMakeRS, tMakeS, tMakeV, tMakeVS, tMeth, tMethX, tMkO, tMulA, tMulD, tNext, tNil, tNoPart, tNot, tNotV, tOp, tOpI, tOpR, tOr, tOrV, tOst, tPairs, tPar, tPar3, tPart, tRet, tRetN, tRevT, tRg2, tSMeth, tSeq, tSl, tTest, tTup, tUn, tVar, tVeI, tXf, tYes, true_and, wAs, wMA, wipe, rSum])
/-! ### _law_good, _law_block_size -/
abbrev sLGood : Stmt := topS 51
abbrev sLSize : Stmt := topS 46
section
variable {rs : List Str} {size : Int}
theorem if_form {ps : List PyData} (h : lgZ rs size "if" ps = true) : ∃ a b x y, ps = [a, b, x, y] := by
  have h' : lpsB rs size [114, 118, 98, 98] ps = true := h
  by_cases e : ps.length = 4
  · match ps, e with
    | [a, b, x, y], _ => exact ⟨a, b, x, y, rfl⟩
  · rw [lps_len e] at h'
    cases h'
theorem wh_form {ps : List PyData} (h : lgZ rs size "while" ps = true) : ∃ a b x, ps = [a, b, x] := by
  have h' : lpsB rs size [114, 118, 98] ps = true := h
  by_cases e : ps.length = 3
  · match ps, e with
    | [a, b, x], _ => exact ⟨a, b, x, rfl⟩
  · rw [lps_len e] at h'
    cases h'
theorem lgP_form {d : PyData} (h : lgP rs size d = true) : ∃ z ps, d = .tuple (.str z :: ps) ∧ lgZ rs size z ps = true := by
  match d, h with
  | .tuple (.str z :: ps), h => exact ⟨z, ps, rfl, h⟩
theorem lgB_tup {l : Nat} {inl : Bool} {d : PyData} (h : lgB rs size l inl d = true) : ∃ ds, d = .tuple ds ∧ ∀ e ∈ ds, lgSt rs size (lfOf rs size l) inl e = true := by
  rw [lgB_eq] at h
  match d, h with
  | .tuple ds, h => exact ⟨ds, rfl, fun e he => List.all_eq_true.1 h e he⟩
theorem lgB_bad {l : Nat} {inl : Bool} {ds : List PyData} {e : PyData} (hm : e ∈ ds) (h : lgSt rs size (lfOf rs size l) inl e = false) : lgB rs size l inl (.tuple ds) = false := by
  rw [lgB_eq]
  exact List.all_eq_false.2 ⟨e, hm, by rw [h]; exact Bool.false_ne_true⟩
theorem lgB_not {l : Nat} {inl : Bool} {d : PyData} (h : isTupD d = false) : lgB rs size l inl d = false := by
  rw [lgB_eq]
  cases d with
  | tuple ds => cases h
  | _ => rfl
end
theorem dpAll_un {K : PySem.W.Frag} {H : Hp} {vs : List V} {d : PyData} {ds : List PyData} (h : DpAll K H vs (d :: ds)) : ∃ v us, vs = v :: us ∧ Dp K H v d ∧ DpAll K H us ds := by
  cases h with
  | cons a b => exact ⟨_, _, rfl, a, b⟩
theorem dp_tup {K : PySem.W.Frag} {H : Hp} {v : V} {ds : List PyData} (h : Dp K H v (.tuple ds)) : ∃ a xs, v = .ref a ∧ SqT K H a xs ∧ DpAll K H xs ds := by
  cases h with
  | tup h1 h2 => exact ⟨_, _, rfl, h1, h2⟩
theorem dp_str {K : PySem.W.Frag} {H : Hp} {v : V} {z : Str} (h : Dp K H v (.str z)) : v = .str z := by
  cases h
  rfl
/-- a statement's tuple -/
theorem dp_st {K : PySem.W.Frag} {H : Hp} {v : V} {z : Str} {ps : List PyData} (h : Dp K H v (.tuple (.str z :: ps))) : ∃ a vs, v = .ref a ∧ SqT K H a (.str z :: vs) ∧ DpAll K H vs ps := by
  obtain ⟨a, xs, rfl, h1, h2⟩ := dp_tup h
  obtain ⟨u, us, rfl, h3, h4⟩ := dpAll_un h2
  cases dp_str h3
  exact ⟨a, us, rfl, h1, h4⟩
theorem dp_if {K : PySem.W.Frag} {H : Hp} {vs : List V} {a b x y : PyData} (h : DpAll K H vs [a, b, x, y]) : ∃ va vb vx vy, vs = [va, vb, vx, vy] ∧ Dp K H vx x ∧ Dp K H vy y := by
  obtain ⟨va, u1, rfl, _, h⟩ := dpAll_un h
  obtain ⟨vb, u2, rfl, _, h⟩ := dpAll_un h
  obtain ⟨vx, u3, rfl, hx, h⟩ := dpAll_un h
  obtain ⟨vy, u4, rfl, hy, h⟩ := dpAll_un h
  cases h
  exact ⟨_, _, _, _, rfl, hx, hy⟩
theorem dp_wh {K : PySem.W.Frag} {H : Hp} {vs : List V} {a b x : PyData} (h : DpAll K H vs [a, b, x]) : ∃ va vb vx, vs = [va, vb, vx] ∧ Dp K H vx x := by
  obtain ⟨va, u1, rfl, _, h⟩ := dpAll_un h
  obtain ⟨vb, u2, rfl, _, h⟩ := dpAll_un h
  obtain ⟨vx, u3, rfl, hx, h⟩ := dpAll_un h
  cases h
  exact ⟨_, _, _, rfl, hx⟩
theorem depth_in {d : PyData} {ds : List PyData} {k : Nat} (hm : d ∈ ds) (h : (PyData.tuple ds).depth ≤ k + 1) : d.depth ≤ k := by
  have := dep_mem hm
  simp only [PyData.depth] at h
  omega
section
variable {P : Program} {w : World} {K : PySem.W.Frag} {mg : Str → Option Value} {base : Heap}
/-- _law_good at a depth, if any is asked -/
def spLGood (K : PySem.W.Frag) : Nat → Sp
  | 0 => fun _ _ _ _ => False
  | l + 1 => fun vs H Q _ => ∃ (x : V) (d : PyData) (wa : Addr) (rs : List Str) (size deep : Int) (inl : Bool), vs = [x, .ref wa, .int size, .int deep, .bl inl] ∧ deep + l = 3 ∧ Dp K H x d ∧ sm d = true ∧ d.depth ≤ 60 ∧ SqT K H wa (rs.map V.str) ∧ (∀ z ∈ rs, wordS z = true) ∧ ∀ G, Same H G → Q (.bl (lgB rs size l inl d)) G
theorem scLGood : FnScope ["block", "words", "size", "deep", "inside", "one"] ["block", "words", "size", "deep", "inside"] (defScope sLGood) := ⟨rfl, rfl, rfl, by decide +kernel, rfl, by decide +kernel, by decide +kernel⟩
theorem c_lGood {l k : Nat} (D : Def K mg "_law_good" sLGood ["block", "words", "size", "deep", "inside"]) (T : Bl2 mg) (hk : 2 ≤ k) (cP : FnC P w K mg base CX0 2 "_law_parts_good" ["one", "words", "size"] (spLParts K)) (cG : FnC P w K mg base CX0 k "_law_good" ["block", "words", "size", "deep", "inside"] (spLGood K l)) :
    FnC P w K mg base CX0 (k + 1) "_law_good" ["block", "words", "size", "deep", "inside"] (spLGood K (l + 1)) := by
  refine D.ok scLGood (fun vs H Q E h => ?_) (fun f cdv A outer s H vs Q E hr h => ?_)
  · obtain ⟨x, d, wa, rs, size, deep, inl, rfl, _⟩ := h
    rfl
  · obtain ⟨x, d, wa, rs, size, deep, inl, rfl, hdp, hx, hl, hd, hR, hw, k⟩ := h
    have sc := scLGood
    have hr2 : Room 2 _ := hr.mono hk
    refine ⟨_, (pss_cut (ps_if (pt_not (pt_val (pe_callB (call_isD ty_tuple) (by rfl) T.n_isinstance (by decide +kernel) (pa_cons (pv 0) (pa_cons (pe_ty "tuple" (by rfl) T.n_tuple) pa_nil))))) (pss_one (ps_ret pe_bl)) pss_nil)
    (pss_cons (ps_for PassesOwn.never rfl (pi_tup (pv 0)) (pg_name (i := 5) sc.nd rfl (Or.inl rfl))
      (pss_cut (ps_if (PW.pt (pw_or (pt_not (pt_val (pe_c cP hr2 rfl (pa_cons (pv 5) (pa_cons (pv 1) (pa_cons (pv 2) pa_nil)))))) (pw_or1 (PW.pt (pw_and (pt_cmpR op_eq (pe_ix ix_tup (pv 5) pe_int (fun _ _ => rfl)) pe_str (nomark _)) (pw_and1 (pt_not (pt_val (pv 4))))))))) (pss_one (ps_ret pe_bl)) pss_nil)
    (pss_cut (ps_if (pt_cmpR op_in_seq (pe_ix ix_tup (pv 5) pe_int (fun _ _ => rfl)) (pe_lst (pa_cons pe_str (pa_cons pe_str pa_nil))) (by rfl)) (pss_one (ps_if (PW.pt (pw_or (pt_cmpR op_eq (pv 3) pe_int (nomark _)) (pw_or1 (pt_not (pt_val (pe_c cG hr rfl (pa_cons (pe_ix ix_tup (pv 5) pe_int (fun _ _ => rfl)) (pa_cons (pv 1) (pa_cons (pv 2) (pa_cons (pe_op op_add (pv 3) pe_int) (pa_cons (pe_cmpR op_eq (pe_ix ix_tup (pv 5) pe_int (fun _ _ => rfl)) pe_str (nomark _)) pa_nil))))))))))) (pss_one (ps_ret pe_bl)) pss_nil)) pss_nil)
    (pss_one (ps_if (PW.pt (pw_and (pt_cmpR op_eq (pe_ix ix_tup (pv 5) pe_int (fun _ _ => rfl)) pe_str (nomark _)) (pw_and1 (pt_not (pt_val (pe_c cG hr rfl (pa_cons (pe_ix ix_tup (pv 5) pe_int (fun _ _ => rfl)) (pa_cons (pv 1) (pa_cons (pv 2) (pa_cons (pe_op op_add (pv 3) pe_int) (pa_cons pe_bl pa_nil))))))))))) (pss_one (ps_ret pe_bl)) pss_nil)))))
    (pss_one (ps_ret pe_bl)))), ?_⟩
    refine cut_hide (fun τ G => τ = [some x, some (.ref wa), some (.int size), some (.int deep), some (.bl inl), none] ∧ G = H ∧ ∃ a ds xs, x = .ref a ∧ d = .tuple ds ∧ SqT K H a xs ∧ DpAll K H xs ds) (fun M' hM => ?_) ?_
    · walk_at "wp"
      refine ⟨d, hx, ?_⟩
      rw [isTy_tupD]
      cases ht : isTupD d with
      | true =>
        cases d with
        | tuple ds =>
          obtain ⟨a, xs, rfl, h1, h2⟩ := dp_tup hx
          exact hM _ _ ⟨rfl, rfl, a, ds, xs, rfl, rfl, h1, h2⟩
        | _ => cases ht
      | false =>
        have e := k H (Same.refl H)
        rw [lgB_not ht] at e
        exact e
    rintro τ G ⟨rfl, rfl, a, ds, xs, rfl, rfl, hs, hps⟩
    obtain ⟨sm0, sm1⟩ := sm_tup hl
    have lx := dpAll_len hps
    have hd' : (PyData.tuple ds).depth ≤ 59 + 1 := hd
    walk_at "wp"
    refine ⟨⟨_, hs⟩, ?_⟩
    refine loop_it (walk_tup (xs := xs)) (fun i τ F => ∃ (u5 : Option V), τ = [some (.ref a), some (.ref wa), some (.int size), some (.int deep), some (.bl inl), u5] ∧ Same G F ∧ ∀ (j : Nat) e, j < i → ds[j]? = some e → lgSt rs size (lfOf rs size l) inl e = true) ⟨_, rfl, Same.refl _, fun j e h => by omega⟩ (fun i τ F _ h => by obtain ⟨_, _, s, _⟩ := h; exact Same.sqT s hs) ?_ ?_
    · rintro i v τ F1 F2 hi ⟨u5, rfl, sF, ok⟩ ⟨rfl, hv⟩
      obtain ⟨p, hp, hpd⟩ := dpAll_get hps hv
      have hpm := List.mem_of_getElem? hp
      have bad : lgSt rs size (lfOf rs size l) inl p = false → ∀ {F : Hp}, Same F2 F → Q (.bl false) F := fun e F s => by
        have e2 := k F (sF.trans s)
        rw [lgB_bad hpm e] at e2
        exact e2
      have good : lgSt rs size (lfOf rs size l) inl p = true → ∀ (j : Nat) e, j < i + 1 → ds[j]? = some e → lgSt rs size (lfOf rs size l) inl e = true := fun h j e hj he => by
        by_cases c : j < i
        · exact ok j e c he
        · have : j = i := by omega
          subst this
          rw [hp] at he
          cases he
          exact h
      walk_at "wp"
      refine cut_hide (fun τ F => τ = [some (.ref a), some (.ref wa), some (.int size), some (.int deep), some (.bl inl), some v] ∧ Same F2 F ∧ ∃ b z ps vs, v = .ref b ∧ p = .tuple (.str z :: ps) ∧ SqT K F2 b (.str z :: vs) ∧ DpAll K F2 vs ps ∧ lgZ rs size z ps = true ∧ (decide (z ≠ "leave") || inl) = true) (fun M' hM => ?_) ?_
      · walk_at "wp"
        refine ⟨v, p, wa, rs, size, rfl, dp_same sF _ _ hpd, sms_mem sm1 hpm, Nat.le_trans (depth_in hpm hd') (by decide), Same.sqT sF hR, hw, fun F s => ⟨_, rfl, ?_⟩⟩
        cases hg : lgP rs size p with
        | false => exact bad (by unfold lgSt; rw [hg, Bool.false_and]) s
        | true =>
          obtain ⟨z, ps, rfl, hz⟩ := lgP_form hg
          obtain ⟨b, vs, rfl, h1, h2⟩ := dp_st (dp_same sF _ _ hpd)
          refine Eq.mpr (if_neg Bool.false_ne_true) ⟨b, rfl, _, Same.sqT s h1, _, at_of (j := 0) rfl rfl, rfl, ite2 (fun c => ?_) fun c => ?_⟩
          · have c : z = "leave" := V.str.inj c
            cases inl with
            | true => exact hM _ _ ⟨rfl, s, b, z, ps, vs, rfl, rfl, h1, h2, hz, by rw [Bool.or_true]⟩
            | false =>
              refine bad ?_ s
              rw [lgSt_tup, show decide (z ≠ "leave") = false from decide_eq_false fun h => h c, Bool.false_or, Bool.false_and, Bool.and_false]
          · exact hM _ _ ⟨rfl, s, b, z, ps, vs, rfl, rfl, h1, h2, hz, by rw [show decide (z ≠ "leave") = true from decide_eq_true fun h => c (by rw [h]), Bool.true_or]⟩
      rintro τ F3 ⟨rfl, s3, b, z, ps, vs, rfl, rfl, hb, hvs, hz, hlv⟩
      have hpsm : sms ps = true := (sms_cons (sm_tup (sms_mem sm1 hpm)).2).2
      have hpd59 : ∀ {q : PyData}, q ∈ ps → q.depth ≤ 60 := fun {q} hq => by
        have e1 : (PyData.tuple (.str z :: ps)).depth ≤ 58 + 1 := depth_in hpm hd'
        have := depth_in (List.mem_cons_of_mem _ hq) e1
        omega
      have eSt : lgSt rs size (lfOf rs size l) inl (.tuple (.str z :: ps)) = lgIn (lfOf rs size l) z ps := by
        rw [lgSt_tup, hz, hlv, Bool.true_and, Bool.true_and]
      refine cut_hide (fun τ F => τ = [some (.ref a), some (.ref wa), some (.int size), some (.int deep), some (.bl inl), some (.ref b)] ∧ Same F3 F ∧ (z = "if" ∨ z = "while" → ∃ l', l = l' + 1 ∧ lgB rs size l' (decide (z = "while")) (ps.getD 2 .none) = true)) (fun M' hM => ?_) ?_
      · walk_at "wp"
        refine ⟨_, Same.sqT s3 hb, _, at_of (j := 0) rfl rfl, by decide, fun q nq => ?_⟩
        have sq := same_new (o := .lst [V.str "if", V.str "while"]) nq
        refine ⟨[V.str "if", V.str "while"], .inl (SqL.of upd_same), rfl, rfl, ?_⟩
        rw [show inV (V.str z) [V.str "if", V.str "while"] = decide (z ∈ (["if", "while"] : List Str)) from inV_strs (rs := ["if", "while"])]
        refine ite2 (fun c => ?_) fun c => hM _ _ ⟨rfl, sq, fun hh => absurd (decide_eq_true (by simpa using hh)) c⟩
        have c : z = "if" ∨ z = "while" := by simpa using of_decide_eq_true c
        refine ⟨rfl, ite2 (fun c3 => ?_) fun c3 => ?_⟩
        · have l0 : l = 0 := by omega
          subst l0
          refine bad ?_ (s3.trans sq)
          rw [eSt]
          rcases c with rfl | rfl <;> rfl
        · obtain ⟨l', rfl⟩ : ∃ l', l = l' + 1 := ⟨l - 1, by omega⟩
          obtain ⟨v2, x2, hv2, hx2, hdx, hm⟩ : ∃ v2 x2, vs[2]? = some v2 ∧ ps.getD 2 .none = x2 ∧ Dp K F2 v2 x2 ∧ x2 ∈ ps := by
            rcases c with rfl | rfl
            · obtain ⟨pa, pb, px, py, rfl⟩ := if_form hz
              obtain ⟨va, vb, vx, vy, rfl, h1, _⟩ := dp_if hvs
              exact ⟨vx, px, rfl, rfl, h1, by simp⟩
            · obtain ⟨pa, pb, px, rfl⟩ := wh_form hz
              obtain ⟨va, vb, vx, rfl, h1⟩ := dp_wh hvs
              exact ⟨vx, px, rfl, rfl, h1, by simp⟩
          have sA := s3.trans sq
          refine ⟨_, Same.sqT sA hb, v2, at_of (j := 3) rfl hv2, _, Same.sqT sA hb, _, at_of (j := 0) rfl rfl, rfl, v2, x2, wa, rs, size, deep + 1, decide (z = "while"), ?_, by omega, dp_same sA _ _ hdx, sms_mem hpsm hm, hpd59 hm, Same.sqT (sF.trans sA) hR, hw, fun F s => ⟨_, rfl, ?_⟩⟩
          · rw [show decide (V.str z = V.str "while") = decide (z = "while") by simp]
          cases hg : lgB rs size l' (decide (z = "while")) x2 with
          | false =>
            refine bad ?_ (sA.trans s)
            rw [eSt]
            rcases c with rfl | rfl
            · show (lgB rs size l' false (ps.getD 2 .none) && lgB rs size l' false (ps.getD 3 .none)) = false
              have hg' : lgB rs size l' false x2 = false := hg
              rw [hx2, hg', Bool.false_and]
            · show lgB rs size l' true (ps.getD 2 .none) = false
              rw [hx2]
              exact hg
          | true => exact hM _ _ ⟨rfl, sq.trans s, fun _ => ⟨l', rfl, by rw [hx2]; exact hg⟩⟩
      rintro τ F4 ⟨rfl, s4, hin⟩
      walk_at "wp"
      have sA := s3.trans s4
      refine ⟨_, Same.sqT sA hb, _, at_of (j := 0) rfl rfl, rfl, ite2 (fun c => ?_) fun c => ⟨⟨_, rfl⟩, sF.trans sA, good ?_⟩⟩
      · have c : z = "if" := V.str.inj c
        subst c
        obtain ⟨l', rfl, hg1⟩ := hin (.inl rfl)
        obtain ⟨pa, pb, px, py, rfl⟩ := if_form hz
        obtain ⟨va, vb, vx, vy, rfl, _, h2⟩ := dp_if hvs
        have hg1 : lgB rs size l' false px = true := hg1
        refine ⟨_, Same.sqT sA hb, vy, at_of (j := 4) rfl rfl, vy, py, wa, rs, size, deep + 1, false, rfl, by omega, dp_same sA _ _ h2, sms_mem hpsm (by simp), hpd59 (by simp), Same.sqT (sF.trans sA) hR, hw, fun F s => ⟨_, rfl, ?_⟩⟩
        have eIn : lgIn (lfOf rs size (l' + 1)) "if" [pa, pb, px, py] = (lgB rs size l' false px && lgB rs size l' false py) := rfl
        cases hg : lgB rs size l' false py with
        | false => exact bad (by rw [eSt, eIn, hg, Bool.and_false]) (sA.trans s)
        | true => exact ⟨⟨_, rfl⟩, (sF.trans sA).trans s, good (by rw [eSt, eIn, hg, hg1]; rfl)⟩
      · have c : z ≠ "if" := fun h => c (by rw [h])
        rw [eSt]
        unfold lgIn
        rw [if_neg c]
        by_cases c2 : z = "while"
        · obtain ⟨l', rfl, hg1⟩ := hin (.inr c2)
          rw [if_pos c2]
          rw [decide_eq_true c2] at hg1
          exact hg1
        · rw [if_neg c2]
    · rintro τ F ⟨u5, rfl, sF, ok⟩
      walk_at "wp"
      have e := k F sF
      have e2 : lgB rs size l inl (.tuple ds) = true := by
        rw [lgB_eq]
        exact List.all_eq_true.2 fun e he => by
          obtain ⟨j, hj, rfl⟩ := List.getElem_of_mem he
          exact ok j _ (by omega) (List.getElem?_eq_getElem hj)
      rw [e2] at e
      exact e
end

end YY

set_option maxRecDepth 100000
set_option maxHeartbeats 4000000
namespace YY
open PySem PySem.Spec PyProof.Rows L2 XX
local macro_rules | `(tactic| walk_at "wp") => `(tactic| simp only [Int.zero_add, L2.start, LcEnd, List.append_nil, List.cons.injEq, List.cons_append, List.getElem?_cons_succ, List.getElem?_cons_zero, List.length_cons, List.length_nil, List.map_cons, List.map_nil, List.nil_append, List.replicate, List.replicate_succ, List.replicate_zero, List.set_cons_succ, List.set_cons_zero, Nat.reduceAdd, Nat.reduceSub, Option.some.injEq, StX.tMakeR, StX.tStar, V.bl.injEq, V.int.injEq, V.ref.injEq, V.str.injEq, V.ty.injEq, WE, and_assoc, and_false, and_true, bool_ite_false, bool_ite_true, cxOf_K, cxOf_noxK, dec_ite, decide_eq_true_eq, exists_and_left, exists_and_right, exists_const, exists_eq_left, exists_eq_left', false_and, false_or, gCons, gName, gNil, gSub, gTup, iEnumA, iItems, iKeys, iList, iRng1, iRng2, iStr, iTup, iZipB, ite_false, ite_true, ndec_ite, or_false, rAppend, rCat, rCatT, rEq, rEqI, rEqK, rEqV, rExt2, rI, rI0, rIn, rInRg, rIndex, rIsD, rIsE, rIsE2, rIxD, rIxL, rIxS, rIxT, rLenI, rLenK, rListStr, rMax, rMaxDef, rSetIM, rEqT, sFldAug, rAdd, rMin, rMulS, rNe, rNeDA, rNeV, rRange1, rRep, rRepA, rReprE, rReprI, rSetD, rSetI, rSetL, rSlL, rSlT, rSortedSet, rU, reduceCtorEq, reduceIte, sFld, tAnd, tAndV, tAsg, tAug, tB, tBM, tBM0, tC, tCB, tCKw, tDGetT, tCall, tCallS, tChain, tCons, tDGet, tDIn, tDNewK, tDNotIn, tDcT_eq, tDc_eq, tDisp, tDrop, tErr, tFld, tFor_eq, tIf, tIfS, tIxI, tLc2_eq, tLc_eq, tLenSetS, tLock, tLockE, tLst, tLstRg, tM1, tMakeRS, tMakeS, tMakeV, tMakeVS, tMeth, tMethX, tMkO, tMulA, tMulD, tNext, tNil, tNoPart, tNot, tNotV, tOp, tOpI, tOpR, tOr, tOrV, tOst, tPairs, tPar, tPar3, tPart, tRet, tRetN, tRevT, tRg2, tSMeth, tSeq, tSl, tTest, tTup, tUn, tVar, tVeI, tXf, tYes, true_and, wAs, wMA, wipe, rSum])
/-! ### _law_block_size -/
section
variable {P : Program} {w : World} {K : PySem.W.Frag} {mg : Str → Option Value} {base : Heap}
def spLSize (K : PySem.W.Frag) : Nat → Sp
  | 0 => fun _ _ _ _ => False
  | l + 1 => fun vs H Q _ => ∃ (x : V) (d : PyData) (rs : List Str) (size : Int) (inl : Bool), vs = [x] ∧ Dp K H x d ∧ lgB rs size l inl d = true ∧ ∀ G, Same H G → Q (.int (szB l d : Nat)) G
theorem scLSize : FnScope ["block", "found", "one"] ["block"] (defScope sLSize) := ⟨rfl, rfl, rfl, by decide +kernel, rfl, by decide +kernel, by decide +kernel⟩
theorem c_lSize {l k : Nat} (D : Def K mg "_law_block_size" sLSize ["block"]) (cS : FnC P w K mg base CX0 k "_law_block_size" ["block"] (spLSize K l)) : FnC P w K mg base CX0 (k + 1) "_law_block_size" ["block"] (spLSize K (l + 1)) := by
  refine D.ok scLSize (fun vs H Q E h => ?_) (fun f cdv A outer s H vs Q E hr h => ?_)
  · obtain ⟨x, d, rs, size, inl, rfl, _⟩ := h
    rfl
  · obtain ⟨x, d, rs, size, inl, rfl, hx, hg, k⟩ := h
    have sc := scLSize
    refine ⟨_, (pss_cons (ps_set (i := 1) sc.nd rfl (Or.inl rfl) pe_int)
    (pss_cons (ps_for PassesOwn.never rfl (pi_tup (pv 0)) (pg_name (i := 2) sc.nd rfl (Or.inl rfl))
      (pss_one (ps_if (pt_cmpR op_eq (pe_ix ix_tup (pv 2) pe_int (fun _ _ => rfl)) pe_str (nomark _)) (pss_one (ps_set (i := 1) sc.nd rfl (Or.inl rfl) (pe_op op_add (pe_op op_add (pe_op op_add (pv 1) pe_int) (pe_c cS hr rfl (pa_cons (pe_ix ix_tup (pv 2) pe_int (fun _ _ => rfl)) pa_nil))) (pe_c cS hr rfl (pa_cons (pe_ix ix_tup (pv 2) pe_int (fun _ _ => rfl)) pa_nil))))) (pss_one (ps_if (pt_cmpR op_eq (pe_ix ix_tup (pv 2) pe_int (fun _ _ => rfl)) pe_str (nomark _)) (pss_one (ps_set (i := 1) sc.nd rfl (Or.inl rfl) (pe_op op_add (pe_op op_add (pv 1) pe_int) (pe_c cS hr rfl (pa_cons (pe_ix ix_tup (pv 2) pe_int (fun _ _ => rfl)) pa_nil))))) (pss_one (ps_set (i := 1) sc.nd rfl (Or.inl rfl) (pe_op op_add (pv 1) pe_int))))))))
    (pss_one (ps_ret (pv 1))))), ?_⟩
    obtain ⟨ds, rfl, hall⟩ := lgB_tup hg
    obtain ⟨a, xs, rfl, hs, hps⟩ := dp_tup hx
    have lx := dpAll_len hps
    walk_at "wp"
    refine ⟨⟨_, hs⟩, ?_⟩
    refine loop_it (walk_tup (xs := xs)) (fun i τ F => ∃ (u2 : Option V), τ = [some (.ref a), some (.int (((ds.take i).map (szSt (sfOf l))).sum : Nat)), u2] ∧ Same H F) ⟨_, rfl, Same.refl _⟩ (fun i τ F _ h => by obtain ⟨_, _, s⟩ := h; exact Same.sqT s hs) ?_ ?_
    · rintro i v τ F1 F2 hi ⟨u2, rfl, sF⟩ ⟨rfl, hv⟩
      obtain ⟨p, hp, hpd⟩ := dpAll_get hps hv
      have hst := hall p (List.mem_of_getElem? hp)
      have hgp : lgP rs size p = true := by
        unfold lgSt at hst
        rw [Bool.and_eq_true] at hst
        exact hst.1
      have eSum : ((ds.take (i + 1)).map (szSt (sfOf l))).sum = ((ds.take i).map (szSt (sfOf l))).sum + szSt (sfOf l) p := by
        rw [List.take_add_one, hp, List.map_append, List.sum_append]
        simp
      obtain ⟨z, ps, rfl, hz⟩ := lgP_form hgp
      obtain ⟨b, vs, rfl, hb, hvs⟩ := dp_st (dp_same sF _ _ hpd)
      rw [lgSt_tup, hz, Bool.true_and, Bool.and_eq_true] at hst
      obtain ⟨_, hin⟩ := hst
      rw [szSt_tup] at eSum
      rw [eSum]
      generalize ((ds.take i).map (szSt (sfOf l))).sum = m
      walk_at "wp"
      refine ⟨_, hb, _, at_of (j := 0) rfl rfl, rfl, ite2 (fun c => ?_) fun c => ?_⟩
      · have c : z = "if" := V.str.inj c
        subst c
        obtain ⟨pa, pb, px, py, rfl⟩ := if_form hz
        obtain ⟨va, vb, vx, vy, rfl, h1, h2⟩ := dp_if hvs
        cases l with
        | zero => cases hin
        | succ l' =>
          have e3 : (lgB rs size l' false px && lgB rs size l' false py) = true := hin
          rw [Bool.and_eq_true] at e3
          have e4 : szZ (sfOf (l' + 1)) "if" [pa, pb, px, py] = 2 + szB l' px + szB l' py := rfl
          rw [e4]
          exact ⟨_, hb, vx, at_of (j := 3) rfl rfl, vx, px, rs, size, false, rfl, h1, e3.1, fun F s => ⟨_, rfl, _, Same.sqT s hb, vy, at_of (j := 4) rfl rfl, vy, py, rs, size, false, rfl, dp_same s _ _ h2, e3.2, fun F' s' => ⟨_, rfl, by omega, ⟨_, rfl⟩, (sF.trans s).trans s'⟩⟩⟩
      · have c : z ≠ "if" := fun h => c (by rw [h])
        refine ⟨_, hb, _, at_of (j := 0) rfl rfl, rfl, ite2 (fun c2 => ?_) fun c2 => ?_⟩
        · have c2 : z = "while" := V.str.inj c2
          subst c2
          obtain ⟨pa, pb, px, rfl⟩ := wh_form hz
          obtain ⟨va, vb, vx, rfl, h1⟩ := dp_wh hvs
          cases l with
          | zero => cases hin
          | succ l' =>
            have e3 : lgB rs size l' true px = true := hin
            have e4 : szZ (sfOf (l' + 1)) "while" [pa, pb, px] = 3 + szB l' px := rfl
            rw [e4]
            exact ⟨_, hb, vx, at_of (j := 3) rfl rfl, vx, px, rs, size, true, rfl, h1, e3, fun F s => ⟨_, rfl, by omega, ⟨_, rfl⟩, sF.trans s⟩⟩
        · have c2 : z ≠ "while" := fun h => c2 (by rw [h])
          rw [szZ_leaf ⟨c, c2⟩]
          exact ⟨by omega, ⟨_, rfl⟩, sF⟩
    · rintro τ F ⟨u2, rfl, sF⟩
      walk_at "wp"
      rw [lx, List.take_length]
      have e := k F sF
      rw [szB_eq] at e
      exact e
end

end YY

set_option maxRecDepth 100000
set_option maxHeartbeats 4000000
namespace YY
open PySem PySem.Spec PyProof.Rows L2 XX
local macro_rules | `(tactic| walk_at "wp") => `(tactic| simp only [Int.zero_add, L2.start, LcEnd, List.append_nil, List.cons.injEq, List.cons_append, List.getElem?_cons_succ, List.getElem?_cons_zero, List.length_cons, List.length_nil, List.map_cons, List.map_nil, List.nil_append, List.replicate, List.replicate_succ, List.replicate_zero, List.set_cons_succ, List.set_cons_zero, Nat.reduceAdd, Nat.reduceSub, Option.some.injEq, StX.tMakeR, StX.tStar, V.bl.injEq, V.int.injEq, V.ref.injEq, V.str.injEq, V.ty.injEq, WE, and_assoc, and_false, and_true, bool_ite_false, bool_ite_true, cxOf_K, cxOf_noxK, dec_ite, decide_eq_true_eq, exists_and_left, exists_and_right, exists_const, exists_eq_left, exists_eq_left', false_and, false_or, gCons, gName, gNil, gSub, gTup, iEnumA, iItems, iKeys, iList, iRng1, iRng2, iStr, iTup, iZipB, ite_false, ite_true, ndec_ite, or_false, rAppend, rCat, rCatT, rEq, rEqI, rEqK, rEqV, rExt2, rI, rI0, rIn, rInRg, rIndex, rIsD, rIsE, rIsE2, rIxD, rIxL, rIxS, rIxT, rLenI, rLenK, rListStr, rMax, rMaxDef, rSetIM, rEqT, sFldAug, rAdd, rMin, rMulS, rNe, rNeDA, rNeV, rRange1, rRep, rRepA, rReprE, rReprI, rSetD, rSetI, rSetL, rSlL, rSlT, rSortedSet, rU, reduceCtorEq, reduceIte, sFld, tAnd, tAndV, tAsg, tAug, tB, tBM, tBM0, tC, tCB, tCKw, tDGetT, tCall, tCallS, tChain, tCons, tDGet, tDIn, tDNewK, tDNotIn, tDcT_eq, tDc_eq, tDisp, tDrop, tErr, tFld, tFor_eq, tIf, tIfS, tIxI, tLc2_eq, tLc_eq, tLenSetS, tLock, tLockE, tLst, tLstRg, tM1, tMakeRS, tMakeS, tMakeV, tMakeVS, tMeth, tMethX, tMkO, tMulA, tMulD, tNext, tNil, tNoPart, tNot, tNotV, tOp, tOpI, tOpR, tOr, tOrV, tOst, tPairs, tPar, tPar3, tPart, tRet, tRetN, tRevT, tRg2, tSMeth, tSeq, tSl, tTest, tTup, tUn, tVar, tVeI, tXf, tYes, true_and, wAs, wMA, wipe, rSum])
/-! ### _law_statement, _law_block -/
abbrev sLStmt : Stmt := topS 44
abbrev sLBlock : Stmt := topS 45
/-! ### what stays while the pool goes on, and while a table is written -/
mutual
def noL : PyData → Bool
  | .list _ => false
  | .tuple ds => noLs ds
  | .dict _ => false
  | _ => true
def noLs : List PyData → Bool
  | [] => true
  | d :: ds => noL d && noLs ds
end
mutual
theorem dp_noL {K : PySem.W.Frag} {H G : Hp} (e1 : ∀ a xs, SqT K H a xs → SqT K G a xs) : ∀ (d : PyData) (v : V), noL d = true → Dp K H v d → Dp K G v d
  | .none, _, _, h => by
    cases h
    exact .non
  | .bool b, _, _, h => by
    cases h
    exact .bl b
  | .int i, _, _, h => by
    cases h
    exact .int i
  | .str x, _, _, h => by
    cases h
    exact .str x
  | .list ds, _, n, h => nomatch n
  | .tuple ds, _, n, h => by
    cases h with
    | tup hs ha => exact .tup (e1 _ _ hs) (dps_noL e1 ds _ n ha)
  | .dict _, _, _, h => nomatch h
theorem dps_noL {K : PySem.W.Frag} {H G : Hp} (e1 : ∀ a xs, SqT K H a xs → SqT K G a xs) : ∀ (ds : List PyData) (vs : List V), noLs ds = true → DpAll K H vs ds → DpAll K G vs ds
  | [], _, _, h => by
    cases h
    exact .nil
  | d :: ds, _, n, h => by
    rw [noLs, Bool.and_eq_true] at n
    cases h with
    | cons h1 h2 => exact .cons (dp_noL e1 d _ n.1 h1) (dps_noL e1 ds _ n.2 h2)
end
theorem noLs_of : ∀ {ds : List PyData}, (∀ d ∈ ds, noL d = true) → noLs ds = true
  | [], _ => rfl
  | d :: ds, h => by
    rw [noLs, h d List.mem_cons_self, noLs_of fun e he => h e (List.mem_cons_of_mem _ he)]
    rfl
def kindsA : List Str := ["take", "if", "while", "group", "set", "copy", "meet", "any", "all", "same"]
theorem Gr.dp {K : PySem.W.Frag} {p : Addr} {H G : Hp} {v : V} {d : PyData} (g : Gr p H G) (hP : Pool H p) (n : noL d = true) (h : Dp K H v d) : Dp K G v d := dp_noL (fun _ _ e => g.tup hP e) d v n h
theorem Gr.dps {K : PySem.W.Frag} {p : Addr} {H G : Hp} {vs : List V} {ds : List PyData} (g : Gr p H G) (hP : Pool H p) (n : noLs ds = true) (h : DpAll K H vs ds) : DpAll K G vs ds := dps_noL (fun _ _ e => g.tup hP e) ds vs n h
/-- a new tuple of data -/
theorem mk_st {K : PySem.W.Frag} {H : Hp} {q : Addr} {vs : List V} {ds : List PyData} (nq : H q = none) (h : DpAll K H vs ds) : Dp K (upd H q (.tup vs)) (.ref q) (.tuple ds) := .tup (SqT.of upd_same) (dps_same (same_new nq) _ _ h)
section
variable {rs : List Str} {size : Int}
theorem pl_place {z : Str} (h : z ∈ rs) : lpB rs size 114 (.str z) = true := decide_eq_true h
theorem pl_val {i : Int} (h0 : 0 ≤ i) (h1 : i < size) : lpB rs size 118 (.int i) = true := btw_of h0 (by omega)
theorem lps_one {c : Nat} {cs : List Nat} {p : PyData} {ps : List PyData} (h : lpB rs size c p = true) (t : lpsB rs size cs ps = true) : lpsB rs size (c :: cs) (p :: ps) = true := by
  rw [lpsB, h, t]
  rfl
theorem st_leaf {cb : LF} {inl : Bool} {z : Str} {ps : List PyData} {cs : List Nat} (hs : signsOf z = some cs) (hl : z ≠ "leave") (hi : z ≠ "if" ∧ z ≠ "while") (h : lpsB rs size cs ps = true) : lgSt rs size cb inl (.tuple (.str z :: ps)) = true := by
  rw [lgSt_tup, lgIn_leaf hi, show decide (z ≠ "leave") = true from decide_eq_true hl]
  unfold lgZ
  rw [hs, Bool.true_or, Bool.true_and, Bool.and_true]
  exact h
theorem st_leave {cb : LF} {a b : PyData} (h : lpsB rs size [114, 118] [a, b] = true) : lgSt rs size cb true (.tuple [.str "leave", a, b]) = true := by
  rw [lgSt_tup, lgIn_leaf (by decide), Bool.or_true, Bool.true_and, Bool.and_true]
  exact h
theorem st_if {l : Nat} {inl : Bool} {a b x y : PyData} (h : lpsB rs size [114, 118] [a, b] = true) (tx : isTupD x = true) (ty : isTupD y = true) (hx : lgB rs size l false x = true) (hy : lgB rs size l false y = true) : lgSt rs size (lfOf rs size (l + 1)) inl (.tuple [.str "if", a, b, x, y]) = true := by
  rw [lgSt_tup]
  have e1 : lgZ rs size "if" [a, b, x, y] = lpsB rs size [114, 118, 98, 98] [a, b, x, y] := rfl
  have e2 : lpsB rs size [98, 98] [x, y] = (isTupD x && (isTupD y && true)) := rfl
  have e3 : lgIn (lfOf rs size (l + 1)) "if" [a, b, x, y] = (lgB rs size l false x && lgB rs size l false y) := rfl
  rw [two_law] at h
  rw [e1, two_law, e2, e3, tx, ty, hx, hy, show decide (("if" : Str) ≠ "leave") = true by decide]
  have h' : (rowZ rs size (.tuple [.str "set", a, b]) && true) = true := h
  rw [Bool.and_true] at h'
  rw [h']
  rfl
theorem st_wh {l : Nat} {inl : Bool} {a b x : PyData} (h : lpsB rs size [114, 118] [a, b] = true) (tx : isTupD x = true) (hx : lgB rs size l true x = true) : lgSt rs size (lfOf rs size (l + 1)) inl (.tuple [.str "while", a, b, x]) = true := by
  rw [lgSt_tup]
  have e1 : lgZ rs size "while" [a, b, x] = lpsB rs size [114, 118, 98] [a, b, x] := rfl
  have e2 : lpsB rs size [98] [x] = (isTupD x && true) := rfl
  have e3 : lgIn (lfOf rs size (l + 1)) "while" [a, b, x] = lgB rs size l true x := rfl
  rw [two_law] at h
  rw [e1, two_law, e2, e3, tx, hx, show decide (("while" : Str) ≠ "leave") = true by decide]
  have h' : (rowZ rs size (.tuple [.str "set", a, b]) && true) = true := h
  rw [Bool.and_true] at h'
  rw [h']
  rfl
theorem lgB_isTup {l : Nat} {i : Bool} {d : PyData} (h : lgB rs size l i d = true) : isTupD d = true := by
  obtain ⟨ds, rfl, _⟩ := lgB_tup h
  rfl
end
section
variable {P : Program} {w : World} {K : PySem.W.Frag} {mg : Str → Option Value} {base : Heap}
structure DrIn (K : PySem.W.Frag) (H : Hp) (p wa ka : Addr) (ws : List Str) (size deep : Int) (l : Nat) (ks : List Str) : Prop where
  P : Pool H p
  w : SqT K H wa (ws.map V.str)
  wk : WordsOk ws
  s2 : 2 ≤ size
  s3 : size ≤ 3
  dl : deep + l = 3
  k : H ka = some (.lst (ks.map V.str))
  kp : ka ≠ p
  kn : ks ≠ []
  ki : ∀ z ∈ ks, z ∈ kindsA
theorem DrIn.gr {H G : Hp} {p wa ka : Addr} {ws : List Str} {size deep : Int} {l : Nat} {ks : List Str} (h : DrIn K H p wa ka ws size deep l ks) (g : Gr p H G) : DrIn K G p wa ka ws size deep l ks := ⟨g.pool, g.tup h.P h.w, h.wk, h.s2, h.s3, h.dl, g.keep _ _ h.kp h.k, h.kp, h.kn, h.ki⟩
def spLBlock (K : PySem.W.Frag) : Nat → Sp
  | 0 => fun _ _ _ _ => False
  | l + 1 => fun vs H Q _ => ∃ (p wa ka : Addr) (ws : List Str) (size deep : Int) (inl : Bool) (ks : List Str), vs = [.ref p, .ref wa, .int size, .int deep, .bl inl, .ref ka] ∧ DrIn K H p wa ka ws size deep l ks ∧ ∀ v d G, Gr p H G → Dp K G v d → noL d = true → lgB ws size l inl d = true → Q v G
def spLStmt (K : PySem.W.Frag) (l : Nat) : Sp := fun vs H Q _ => ∃ (p wa ka : Addr) (ws : List Str) (size deep : Int) (inl : Bool) (ks : List Str), vs = [.ref p, .ref wa, .int size, .int deep, .bl inl, .ref ka] ∧ DrIn K H p wa ka ws size deep l ks ∧ ∀ v d G, Gr p H G → Dp K G v d → noL d = true → lgSt ws size (lfOf ws size l) inl d = true → Q v G
theorem scLStmt : FnScope ["pool", "words", "size", "deep", "inside", "kinds", "kind", "word", "value", "first"] ["pool", "words", "size", "deep", "inside", "kinds"] (defScope sLStmt) := ⟨rfl, rfl, rfl, by decide +kernel, rfl, by decide +kernel, by decide +kernel⟩
theorem c_lStmt {l k : Nat} (D : Def K mg "_law_statement" sLStmt ["pool", "words", "size", "deep", "inside", "kinds"]) (hk : 2 ≤ k) (cD : FnC P w K mg base CX0 1 "_law_draw" ["pool", "many"] spDraw) (cK : FnC P w K mg base CX0 2 "_law_pick" ["pool", "some"] (spPick K)) (cB : FnC P w K mg base CX0 k "_law_block" ["pool", "words", "size", "deep", "inside", "kinds"] (spLBlock K l)) :
    FnC P w K mg base CX0 (k + 1) "_law_statement" ["pool", "words", "size", "deep", "inside", "kinds"] (spLStmt K l) := by
  refine D.ok scLStmt (fun vs H Q E h => ?_) (fun f cdv A outer s H vs Q E hr h => ?_)
  · obtain ⟨p, wa, ka, ws, size, deep, inl, ks, rfl, _⟩ := h
    rfl
  · obtain ⟨p, wa, ka, ws, size, deep, inl, ks, rfl, h0, kq⟩ := h
    have sc := scLStmt
    have hr2 : Room 2 _ := hr.mono hk
    have hr1 : Room 1 _ := hr2.mono (by decide)
    refine ⟨_, (pss_cut (ps_set (i := 6) sc.nd rfl (Or.inl rfl) (pe_c cK hr2 rfl (pa_cons (pv 0) (pa_cons (pv 5) pa_nil))))
    (pss_cut (ps_par (i := 7) (j := 8) (by rfl) sc.nd rfl rfl (by decide) rfl rfl (pa_cons (pe_c cK hr2 rfl (pa_cons (pv 0) (pa_cons (pv 1) pa_nil))) (pa_cons (pe_c cD hr1 rfl (pa_cons (pv 0) (pa_cons (pv 2) pa_nil))) pa_nil)) (by rfl))
    (pss_cut (ps_if (PW.pt (pw_and (pt_val (pv 4)) (pw_and1 (pt_cmpR op_eq (pe_c cD hr1 rfl (pa_cons (pv 0) (pa_cons pe_int pa_nil))) pe_int (nomark _))))) (pss_one (ps_ret (pe_tup (pa_cons pe_str (pa_cons (pv 7) (pa_cons (pv 8) pa_nil)))))) pss_nil)
    (pss_cut (ps_if (PW.pt (pw_and (pt_cmpR op_eq (pv 6) pe_str (nomark _)) (pw_and1 (pt_cmpR op_lt (pv 3) pe_int (nomark _))))) (pss_cut (ps_set (i := 9) sc.nd rfl (Or.inl rfl) (pe_c cB hr rfl (pa_cons (pv 0) (pa_cons (pv 1) (pa_cons (pv 2) (pa_cons (pe_op op_add (pv 3) pe_int) (pa_cons pe_bl (pa_cons (pv 5) pa_nil))))))))
    (pss_one (ps_ret (pe_tup (pa_cons pe_str (pa_cons (pv 7) (pa_cons (pv 8) (pa_cons (pv 9) (pa_cons (pe_c cB hr rfl (pa_cons (pv 0) (pa_cons (pv 1) (pa_cons (pv 2) (pa_cons (pe_op op_add (pv 3) pe_int) (pa_cons pe_bl (pa_cons (pv 5) pa_nil))))))) pa_nil))))))))) pss_nil)
    (pss_cut (ps_if (PW.pt (pw_and (pt_cmpR op_eq (pv 6) pe_str (nomark _)) (pw_and1 (pt_cmpR op_lt (pv 3) pe_int (nomark _))))) (pss_one (ps_ret (pe_tup (pa_cons pe_str (pa_cons (pv 7) (pa_cons (pv 8) (pa_cons (pe_c cB hr rfl (pa_cons (pv 0) (pa_cons (pv 1) (pa_cons (pv 2) (pa_cons (pe_op op_add (pv 3) pe_int) (pa_cons pe_bl (pa_cons (pv 5) pa_nil))))))) pa_nil))))))) pss_nil)
    (pss_cut (ps_if (pt_cmpR op_in_seq (pv 6) (pe_lst (pa_cons pe_str (pa_cons pe_str pa_nil))) (by rfl)) (pss_one (ps_ret (pe_tup (pa_cons (pv 6) (pa_cons (pv 7) (pa_cons (pe_c cK hr2 rfl (pa_cons (pv 0) (pa_cons (pv 1) pa_nil))) pa_nil)))))) pss_nil)
    (pss_cut (ps_if (pt_cmpR op_in_seq (pv 6) (pe_lst (pa_cons pe_str (pa_cons pe_str pa_nil))) (by rfl)) (pss_one (ps_ret (pe_tup (pa_cons (pv 6) (pa_cons (pv 7) (pa_cons (pv 8) (pa_cons (pe_c cK hr2 rfl (pa_cons (pv 0) (pa_cons (pv 1) pa_nil))) pa_nil))))))) pss_nil)
    (pss_cut (ps_if (pt_cmpR op_in_seq (pv 6) (pe_lst (pa_cons pe_str (pa_cons pe_str pa_nil))) (by rfl)) (pss_one (ps_ret (pe_tup (pa_cons (pv 6) (pa_cons (pe_c cK hr2 rfl (pa_cons (pv 0) (pa_cons (pe_lst (pa_cons pe_str (pa_cons pe_str pa_nil))) pa_nil))) pa_nil))))) pss_nil)
    (pss_one (ps_ret (pe_ifExp (pt_cmpR op_eq (pv 6) pe_str (nomark _)) (pe_tup (pa_cons pe_str (pa_cons (pv 7) (pa_cons (pv 8) pa_nil)))) (pe_tup (pa_cons pe_str (pa_cons (pv 7) pa_nil)))))))))))))), ?_⟩
    have wn : 0 < (ws.map V.str).length := by
      rw [List.length_map]
      exact h0.wk.least
    refine cut_hide (fun τ G => ∃ z, τ = [some (.ref p), some (.ref wa), some (.int size), some (.int deep), some (.bl inl), some (.ref ka), some (.str z), none, none, none] ∧ Gr p H G ∧ z ∈ kindsA) (fun M' hM => ?_) ?_
    · walk_at "wp"
      refine ⟨p, ka, ks.map V.str, rfl, h0.P, .inl ⟨SqL.of h0.k, h0.kp⟩, by rw [List.length_map]; exact List.length_pos_iff.2 h0.kn, fun v G hv g => ?_⟩
      obtain ⟨z, hz, rfl⟩ := List.mem_map.1 hv
      exact hM _ _ ⟨z, rfl, g, h0.ki z hz⟩
    rintro τ G ⟨z, rfl, g, hz⟩
    have h1 := h0.gr g
    refine cut_hide (fun τ F => ∃ wd i, τ = [some (.ref p), some (.ref wa), some (.int size), some (.int deep), some (.bl inl), some (.ref ka), some (.str z), some (.str wd), some (.int i), none] ∧ Gr p G F ∧ wd ∈ ws ∧ 0 ≤ i ∧ i < size) (fun M' hM => ?_) ?_
    · walk_at "wp"
      refine ⟨p, wa, ws.map V.str, rfl, h1.P, .inr h1.w, wn, fun v F hv g1 => ?_⟩
      obtain ⟨wd, hwd, rfl⟩ := List.mem_map.1 hv
      refine ⟨p, size, rfl, g1.pool, by have := h1.s2; omega, fun i F2 i0 i1 g2 => ?_⟩
      exact hM _ _ ⟨wd, i, rfl, g1.trans g2, hwd, i0, i1⟩
    rintro τ F ⟨wd, i, rfl, g1, hwd, i0, i1⟩
    have g01 := g.trans g1
    have l1 : lpB ws size 114 (.str wd) = true := pl_place hwd
    have l2 : lpB ws size 118 (.int i) = true := pl_val i0 i1
    have l12 : lpsB ws size [114, 118] [.str wd, .int i] = true := lps_one l1 (lps_one l2 rfl)
    have tell : ∀ {F' : Hp} {q : Addr} {vs : List V} {ds : List PyData}, F' q = none → Gr p H F' → DpAll K F' vs ds → noLs ds = true → lgSt ws size (lfOf ws size l) inl (.tuple ds) = true → Q (.ref q) (upd F' q (.tup vs)) := fun nq g hd hn hl => kq _ _ _ (g.trans (Gr.new g.pool nq)) (mk_st nq hd) hn hl
    refine cut_hide (fun τ F' => τ = [some (.ref p), some (.ref wa), some (.int size), some (.int deep), some (.bl inl), some (.ref ka), some (.str z), some (.str wd), some (.int i), none] ∧ Gr p H F') (fun M' hM => ?_) ?_
    · walk_at "wp"
      refine ite2 (fun c => ?_) fun c => hM _ _ ⟨rfl, g01⟩
      refine ⟨p, 5, rfl, g01.pool, by decide, fun j F2 j0 j1 g2 => ⟨rfl, ite2 (fun c2 => ?_) fun c2 => hM _ _ ⟨rfl, g01.trans g2⟩⟩⟩
      refine ⟨by decide, fun q nq => ?_⟩
      have c : inl = true := c
      subst c
      exact tell nq (g01.trans g2) (.cons (.str _) (.cons (.str _) (.cons (.int _) .nil))) rfl (st_leave l12)
    rintro τ F' ⟨rfl, gF⟩
    refine cut_hide (fun τ F2 => τ = [some (.ref p), some (.ref wa), some (.int size), some (.int deep), some (.bl inl), some (.ref ka), some (.str z), some (.str wd), some (.int i), none] ∧ F2 = F' ∧ ¬ (z = "if" ∧ deep < 3)) (fun M' hM => ?_) ?_
    · walk_at "wp"
      refine ⟨rfl, ite2 (fun c => ite2 (fun c2 => ?_) fun c2 => hM _ _ ⟨rfl, rfl, fun h => c2 h.2⟩) fun c => hM _ _ ⟨rfl, rfl, fun h => c h.1⟩⟩
      obtain ⟨l', rfl⟩ : ∃ l', l = l' + 1 := ⟨l - 1, by have := h0.dl; omega⟩
      have hb : DrIn K F' p wa ka ws size (deep + 1) l' ks := { h0.gr gF with dl := by have := h0.dl; omega }
      refine cut_hide (fun τ F3 => ∃ v d, τ = [some (.ref p), some (.ref wa), some (.int size), some (.int deep), some (.bl inl), some (.ref ka), some (.str z), some (.str wd), some (.int i), some v] ∧ Gr p F' F3 ∧ Dp K F3 v d ∧ noL d = true ∧ lgB ws size l' false d = true) (fun M2 hM2 => ?_) ?_
      · walk_at "wp"
        exact ⟨p, wa, ka, ws, size, deep + 1, false, ks, rfl, hb, fun v d F3 g3 hv nv lv => hM2 _ _ ⟨v, d, rfl, g3, hv, nv, lv⟩⟩
      rintro τ F3 ⟨v, d, rfl, g3, hv, nv, lv⟩
      walk_at "wp"
      refine ⟨p, wa, ka, ws, size, deep + 1, false, ks, rfl, hb.gr g3, fun v2 d2 F4 g4 hv2 nv2 lv2 => ⟨by decide, fun q nq => ?_⟩⟩
      exact tell nq ((gF.trans g3).trans g4) (.cons (.str _) (.cons (.str _) (.cons (.int _) (.cons (g4.dp g3.pool nv hv) (.cons hv2 .nil))))) (by rw [noLs, noLs, noLs, noLs, noLs, nv, nv2]; rfl) (st_if l12 (lgB_isTup lv) (lgB_isTup lv2) lv lv2)
    rintro τ F2 ⟨rfl, rfl, nif⟩
    refine cut_hide (fun τ F3 => τ = [some (.ref p), some (.ref wa), some (.int size), some (.int deep), some (.bl inl), some (.ref ka), some (.str z), some (.str wd), some (.int i), none] ∧ F3 = F2) (fun M' hM => ?_) ?_
    · walk_at "wp"
      refine ⟨rfl, ite2 (fun c => ite2 (fun c2 => ?_) fun c2 => hM _ _ ⟨rfl, rfl⟩) fun c => hM _ _ ⟨rfl, rfl⟩⟩
      obtain ⟨l', rfl⟩ : ∃ l', l = l' + 1 := ⟨l - 1, by have := h0.dl; omega⟩
      have hb : DrIn K F2 p wa ka ws size (deep + 1) l' ks := { h0.gr gF with dl := by have := h0.dl; omega }
      refine ⟨p, wa, ka, ws, size, deep + 1, true, ks, rfl, hb, fun v d F3 g3 hv nv lv => ⟨by decide, fun q nq => ?_⟩⟩
      exact tell nq (gF.trans g3) (.cons (.str _) (.cons (.str _) (.cons (.int _) (.cons hv .nil)))) (by rw [noLs, noLs, noLs, noLs, nv]; rfl) (st_wh l12 (lgB_isTup lv) lv)
    rintro τ F3 ⟨rfl, rfl⟩
    refine cut_hide (fun τ F4 => τ = [some (.ref p), some (.ref wa), some (.int size), some (.int deep), some (.bl inl), some (.ref ka), some (.str z), some (.str wd), some (.int i), none] ∧ Gr p H F4) (fun M' hM => ?_) ?_
    · walk_at "wp"
      refine ⟨by decide, fun q nq => ⟨_, .inl (SqL.of upd_same), rfl, rfl, ?_⟩⟩
      rw [show inV (V.str z) [V.str "copy", V.str "same"] = decide (z ∈ (["copy", "same"] : List Str)) from inV_strs (rs := ["copy", "same"])]
      have gq := gF.trans (Gr.new (o := .lst [V.str "copy", V.str "same"]) gF.pool nq)
      have hq := h0.gr gq
      refine ite2 (fun c => ?_) fun c => hM _ _ ⟨rfl, gq⟩
      have c : z = "copy" ∨ z = "same" := by simpa using of_decide_eq_true c
      refine ⟨p, wa, ws.map V.str, rfl, hq.P, .inr hq.w, wn, fun v F4 hv g4 => ?_⟩
      obtain ⟨wd2, hwd2, rfl⟩ := List.mem_map.1 hv
      refine ⟨by decide, fun r nr => tell nr (gq.trans g4) (.cons (.str _) (.cons (.str _) (.cons (.str _) .nil))) rfl ?_⟩
      have l3 : lpsB ws size [114, 114] [.str wd, .str wd2] = true := lps_one l1 (lps_one (pl_place hwd2) rfl)
      rcases c with rfl | rfl
      · exact st_leaf (cs := [114, 114]) rfl (by decide) (by decide) l3
      · exact st_leaf (cs := [114, 114]) rfl (by decide) (by decide) l3
    rintro τ F4 ⟨rfl, g4⟩
    refine cut_hide (fun τ F5 => τ = [some (.ref p), some (.ref wa), some (.int size), some (.int deep), some (.bl inl), some (.ref ka), some (.str z), some (.str wd), some (.int i), none] ∧ Gr p H F5) (fun M' hM => ?_) ?_
    · walk_at "wp"
      refine ⟨by decide, fun q nq => ⟨_, .inl (SqL.of upd_same), rfl, rfl, ?_⟩⟩
      rw [show inV (V.str z) [V.str "any", V.str "all"] = decide (z ∈ (["any", "all"] : List Str)) from inV_strs (rs := ["any", "all"])]
      have gq := g4.trans (Gr.new (o := .lst [V.str "any", V.str "all"]) g4.pool nq)
      have hq := h0.gr gq
      refine ite2 (fun c => ?_) fun c => hM _ _ ⟨rfl, gq⟩
      have c : z = "any" ∨ z = "all" := by simpa using of_decide_eq_true c
      refine ⟨p, wa, ws.map V.str, rfl, hq.P, .inr hq.w, wn, fun v F5 hv g5 => ?_⟩
      obtain ⟨wd2, hwd2, rfl⟩ := List.mem_map.1 hv
      refine ⟨by decide, fun r nr => tell nr (gq.trans g5) (.cons (.str _) (.cons (.str _) (.cons (.int _) (.cons (.str _) .nil)))) rfl ?_⟩
      have l3 : lpsB ws size [114, 118, 114] [.str wd, .int i, .str wd2] = true := lps_one l1 (lps_one l2 (lps_one (pl_place hwd2) rfl))
      rcases c with rfl | rfl
      · exact st_leaf (cs := [114, 118, 114]) rfl (by decide) (by decide) l3
      · exact st_leaf (cs := [114, 118, 114]) rfl (by decide) (by decide) l3
    rintro τ F5 ⟨rfl, g5⟩
    refine cut_hide (fun τ F6 => τ = [some (.ref p), some (.ref wa), some (.int size), some (.int deep), some (.bl inl), some (.ref ka), some (.str z), some (.str wd), some (.int i), none] ∧ Gr p H F6) (fun M' hM => ?_) ?_
    · walk_at "wp"
      refine ⟨by decide, fun q nq => ⟨_, .inl (SqL.of upd_same), rfl, rfl, ?_⟩⟩
      rw [show inV (V.str z) [V.str "group", V.str "meet"] = decide (z ∈ (["group", "meet"] : List Str)) from inV_strs (rs := ["group", "meet"])]
      have gq := g5.trans (Gr.new (o := .lst [V.str "group", V.str "meet"]) g5.pool nq)
      refine ite2 (fun c => ?_) fun c => hM _ _ ⟨rfl, gq⟩
      have c : z = "group" ∨ z = "meet" := by simpa using of_decide_eq_true c
      refine ⟨by decide, fun q2 nq2 => ?_⟩
      have gq2 := gq.trans (Gr.new (o := .lst [V.str "g", V.str "h"]) gq.pool nq2)
      refine ⟨p, q2, [V.str "g", V.str "h"], rfl, gq2.pool, .inl ⟨SqL.of upd_same, (gq.pool.ne_none nq2).symm⟩, by decide, fun v F6 hv g6 => ⟨by decide, fun r nr => ?_⟩⟩
      have hv' : v = .str "g" ∨ v = .str "h" := by simpa using hv
      have key : ∀ y : Str, wordB (.str y) = true → lgSt ws size (lfOf ws size l) inl (.tuple [.str z, .str y]) = true := fun y hy => by
        have l3 : lpsB ws size [119] [.str y] = true := by
          show (wordB (.str y) && true) = true
          rw [hy]
          rfl
        rcases c with rfl | rfl
        · exact st_leaf (cs := [119]) rfl (by decide) (by decide) l3
        · exact st_leaf (cs := [119]) rfl (by decide) (by decide) l3
      rcases hv' with rfl | rfl
      · exact tell nr (gq2.trans g6) (.cons (.str _) (.cons (.str _) .nil)) rfl (key _ (by decide +kernel))
      · exact tell nr (gq2.trans g6) (.cons (.str _) (.cons (.str _) .nil)) rfl (key _ (by decide +kernel))
    rintro τ F6 ⟨rfl, g6⟩
    walk_at "wp"
    refine ⟨rfl, ite2 (fun c => ⟨by decide, fun q nq => ?_⟩) fun c => ⟨by decide, fun q nq => ?_⟩⟩
    · exact tell nq g6 (.cons (.str _) (.cons (.str _) (.cons (.int _) .nil))) rfl (st_leaf (cs := [114, 118]) rfl (by decide) (by decide) l12)
    · exact tell nq g6 (.cons (.str _) (.cons (.str _) .nil)) rfl (st_leaf (cs := [114]) rfl (by decide) (by decide) (lps_one l1 rfl))
end

end YY

set_option maxRecDepth 100000
set_option maxHeartbeats 4000000
namespace YY
open PySem PySem.Spec PyProof.Rows L2 XX
local macro_rules | `(tactic| walk_at "wp") => `(tactic| simp only [Int.zero_add, L2.start, LcEnd, List.append_nil, List.cons.injEq, List.cons_append, List.getElem?_cons_succ, List.getElem?_cons_zero, List.length_cons, List.length_nil, List.map_cons, List.map_nil, List.nil_append, List.replicate, List.replicate_succ, List.replicate_zero, List.set_cons_succ, List.set_cons_zero, Nat.reduceAdd, Nat.reduceSub, Option.some.injEq, StX.tMakeR, StX.tStar, V.bl.injEq, V.int.injEq, V.ref.injEq, V.str.injEq, V.ty.injEq, WE, and_assoc, and_false, and_true, bool_ite_false, bool_ite_true, cxOf_K, cxOf_noxK, dec_ite, decide_eq_true_eq, exists_and_left, exists_and_right, exists_const, exists_eq_left, exists_eq_left', false_and, false_or, gCons, gName, gNil, gSub, gTup, iEnumA, iItems, iKeys, iList, iRng1, iRng2, iStr, iTup, iZipB, ite_false, ite_true, ndec_ite, or_false, rAppend, rCat, rCatT, rEq, rEqI, rEqK, rEqV, rExt2, rI, rI0, rIn, rInRg, rIndex, rIsD, rIsE, rIsE2, rIxD, rIxL, rIxS, rIxT, rLenI, rLenK, rListStr, rMax, rMaxDef, rSetIM, rEqT, sFldAug, rAdd, rMin, rMulS, rNe, rNeDA, rNeV, rRange1, rRep, rRepA, rReprE, rReprI, rSetD, rSetI, rSetL, rSlL, rSlT, rSortedSet, rU, reduceCtorEq, reduceIte, sFld, tAnd, tAndV, tAsg, tAug, tB, tBM, tBM0, tC, tCB, tCKw, tDGetT, tCall, tCallS, tChain, tCons, tDGet, tDIn, tDNewK, tDNotIn, tDcT_eq, tDc_eq, tDisp, tDrop, tErr, tFld, tFor_eq, tIf, tIfS, tIxI, tLc2_eq, tLc_eq, tLenSetS, tLock, tLockE, tLst, tLstRg, tM1, tMakeRS, tMakeS, tMakeV, tMakeVS, tMeth, tMethX, tMkO, tMulA, tMulD, tNext, tNil, tNoPart, tNot, tNotV, tOp, tOpI, tOpR, tOr, tOrV, tOst, tPairs, tPar, tPar3, tPart, tRet, tRetN, tRevT, tRg2, tSMeth, tSeq, tSl, tTest, tTup, tUn, tVar, tVeI, tXf, tYes, true_and, wAs, wMA, wipe, rSum])
section
variable {P : Program} {w : World} {K : PySem.W.Frag} {mg : Str → Option Value} {base : Heap}
theorem scLBlock : FnScope ["pool", "words", "size", "deep", "inside", "kinds", "many", "turn"] ["pool", "words", "size", "deep", "inside", "kinds"] (defScope sLBlock) := ⟨rfl, rfl, rfl, by decide +kernel, rfl, by decide +kernel, by decide +kernel⟩
theorem c_lBlock {l k : Nat} (D : Def K mg "_law_block" sLBlock ["pool", "words", "size", "deep", "inside", "kinds"]) (T : Bl mg) (n_tuple : mg "tuple" = none) (hk : 1 ≤ k) (cD : FnC P w K mg base CX0 1 "_law_draw" ["pool", "many"] spDraw) (cS : FnC P w K mg base CX0 k "_law_statement" ["pool", "words", "size", "deep", "inside", "kinds"] (spLStmt K l)) :
    FnC P w K mg base CX0 (k + 1) "_law_block" ["pool", "words", "size", "deep", "inside", "kinds"] (spLBlock K (l + 1)) := by
  refine D.ok scLBlock (fun vs H Q E h => ?_) (fun f cdv A outer s H vs Q E hr h => ?_)
  · obtain ⟨p, wa, ka, ws, size, deep, inl, ks, rfl, _⟩ := h
    rfl
  · obtain ⟨p, wa, ka, ws, size, deep, inl, ks, rfl, h0, kq⟩ := h
    have sc := scLBlock
    have hr1 : Room 1 _ := hr.mono hk
    have hz := sizeLine_eq
    refine ⟨_, (pss_cons (ps_set (i := 6) sc.nd rfl (Or.inl rfl) (pe_op op_add (pe_c cD hr1 rfl (pa_cons (pv 0) (pa_cons pe_int pa_nil))) (pe_callTy call_int1 (by rfl) T.n_int (by decide +kernel) (pa_cons (pe_cmpR op_eq (pv 3) pe_int (nomark _)) pa_nil))))
    (pss_one (ps_ret (pe_callTy call_tuple_of (by rfl) n_tuple (by decide +kernel) (pa_cons (pe_lc (own := [("turn", 7)]) (g := gName 7) (tt := tYes) rfl sc.nd (pi_range1 (by rfl) T.n_range (pa_cons (pv 6) pa_nil)) (blkOk_by (N := ["pool", "words", "size", "deep", "inside", "kinds", "many", "turn"]) (sc := defScope sLBlock) (by decide +kernel)) (fun _ _ _ _ _ => (pg_name (i := 7) sc.nd rfl (Or.inl rfl))) (fun _ _ _ _ _ => pts_nil) (fun _ _ _ _ _ => (pe_c cS hr rfl (pa_cons (pv 0) (pa_cons (pv 1) (pa_cons (pv 2) (pa_cons (pv 3) (pa_cons (pv 4) (pa_cons (pv 5) pa_nil))))))))) pa_nil))))), ?_⟩
    walk_at "wp"
    refine ⟨p, 3, rfl, h0.P, by decide, fun m G m0 m1 g => ?_⟩

    refine ⟨rfl, m, rfl, ?_⟩
    generalize hM : (m + if deep = 0 then (1 : Int) else 0) = M
    have hM3 : 0 ≤ M ∧ M ≤ 3 := by
      rw [← hM]
      split <;> omega
    refine ⟨by omega, by omega, ?_⟩
    have gH := g
    refine lcw_it (walk_range (lo := 0)) (fun D i F => Gr p H F ∧ ∃ (as : List V) (ds : List PyData), F D = some (.lst as) ∧ as.length = i ∧ DpAll K F as ds ∧ noLs ds = true ∧ ∀ e ∈ ds, lgSt ws size (lfOf ws size l) inl e = true)
      (fun D hD => ⟨g.trans (Gr.new g.pool hD), [], [], upd_same, rfl, .nil, rfl, fun e he => (nomatch he)⟩) (fun _ _ _ _ _ => True.intro) ?_ ?_
    · rintro D i x F F2 hD hi ⟨gF, as, ds, h1, h2, h3, h4, h5⟩ ⟨rfl, rfl⟩
      walk_at "wp"
      have nDp : D ≠ p := (g.pool.ne_none hD).symm
      refine ⟨p, wa, ka, ws, size, deep, inl, ks, rfl, h0.gr gF, fun v d F3 g3 hv nv lv => ?_⟩
      have h1' : F3 D = some (.lst as) := g3.keep D _ nDp h1
      refine ⟨as, h1', by omega, (gF.trans g3).mut h0.P (g.free h0.P hD), as ++ [v], upd_same, by rw [List.length_append, h2]; rfl, ds ++ [d], ?_, noLs_of fun e he => ?_, fun e he => ?_⟩
      · exact dps_app (dps_noL (fun _ _ e => sqT_mut e h1') ds as h4 (g3.dps gF.pool h4 h3)) (.cons (dp_noL (fun _ _ e => sqT_mut e h1') d v nv hv) .nil)
      · rcases List.mem_append.1 he with he | he
        · have : ∀ {ds : List PyData}, noLs ds = true → ∀ e ∈ ds, noL e = true := fun {ds} h => by
            induction ds with
            | nil => exact fun e he => (nomatch he)
            | cons d ds ih =>
              rw [noLs, Bool.and_eq_true] at h
              intro e he
              rcases List.mem_cons.1 he with rfl | he
              · exact h.1
              · exact ih h.2 e he
          exact this h4 e he
        · rw [List.mem_singleton.1 he]
          exact nv
      · rcases List.mem_append.1 he with he | he
        · exact h5 e he
        · rw [List.mem_singleton.1 he]
          exact lv
    · rintro D F hD ⟨gF, as, ds, h1, h2, h3, h4, h5⟩
      refine ⟨D, rfl, as, .inl ⟨SqL.of h1, fun q nq => ?_⟩⟩
      refine kq _ (.tuple ds) _ (gF.trans (Gr.new gF.pool nq)) (mk_st nq h3) h4 ?_
      rw [lgB_eq]
      exact List.all_eq_true.2 h5
end

end YY

set_option maxRecDepth 100000
set_option maxHeartbeats 4000000
namespace YY
open PySem PySem.Spec PyProof.Rows L2 XX
local macro_rules | `(tactic| walk_at "wp") => `(tactic| simp only [Int.zero_add, L2.start, LcEnd, List.append_nil, List.cons.injEq, List.cons_append, List.getElem?_cons_succ, List.getElem?_cons_zero, List.length_cons, List.length_nil, List.map_cons, List.map_nil, List.nil_append, List.replicate, List.replicate_succ, List.replicate_zero, List.set_cons_succ, List.set_cons_zero, Nat.reduceAdd, Nat.reduceSub, Option.some.injEq, StX.tMakeR, StX.tStar, V.bl.injEq, V.int.injEq, V.ref.injEq, V.str.injEq, V.ty.injEq, WE, and_assoc, and_false, and_true, bool_ite_false, bool_ite_true, cxOf_K, cxOf_noxK, dec_ite, decide_eq_true_eq, exists_and_left, exists_and_right, exists_const, exists_eq_left, exists_eq_left', false_and, false_or, gCons, gName, gNil, gSub, gTup, iEnumA, iItems, iKeys, iList, iRng1, iRng2, iStr, iTup, iZipB, ite_false, ite_true, ndec_ite, or_false, rAppend, rCat, rCatT, rEq, rEqI, rEqK, rEqV, rExt2, rI, rI0, rIn, rInRg, rIndex, rIsD, rIsE, rIsE2, rIxD, rIxL, rIxS, rIxT, rLenI, rLenK, rListStr, rMax, rMaxDef, rSetIM, rEqT, sFldAug, rAdd, rMin, rMulS, rNe, rNeDA, rNeV, rRange1, rRep, rRepA, rReprE, rReprI, rSetD, rSetI, rSetL, rSlL, rSlT, rSortedSet, rU, reduceCtorEq, reduceIte, sFld, tAnd, tAndV, tAsg, tAug, tB, tBM, tBM0, tC, tCB, tCKw, tDGetT, tCall, tCallS, tChain, tCons, tDGet, tDIn, tDNewK, tDNotIn, tDcT_eq, tDc_eq, tDisp, tDrop, tErr, tFld, tFor_eq, tIf, tIfS, tIxI, tLc2_eq, tLc_eq, tLenSetS, tLock, tLockE, tLst, tLstRg, tM1, tMakeRS, tMakeS, tMakeV, tMakeVS, tMeth, tMethX, tMkO, tMulA, tMulD, tNext, tNil, tNoPart, tNot, tNotV, tOp, tOpI, tOpR, tOr, tOrV, tOst, tPairs, tPar, tPar3, tPart, tRet, tRetN, tRevT, tRg2, tSMeth, tSeq, tSl, tTest, tTup, tUn, tVar, tVeI, tXf, tYes, true_and, wAs, wMA, wipe, rSum])
/-! ### _law_source_plan -/
abbrev sLSPlan : Stmt := topS 47
section
variable {rs : List Str} {size : Int}
theorem up_st {l : Nat} {i : Bool} (hb : ∀ l', l = l' + 1 → ∀ i d, lgB rs size l' i d = true → lgB rs size (l' + 1) i d = true ∧ szB (l' + 1) d = szB l' d) {d : PyData} (h : lgSt rs size (lfOf rs size l) i d = true) : lgSt rs size (lfOf rs size (l + 1)) i d = true ∧ szSt (sfOf (l + 1)) d = szSt (sfOf l) d := by
  have hP : lgP rs size d = true := by
    unfold lgSt at h
    rw [Bool.and_eq_true] at h
    exact h.1
  obtain ⟨z, ps, rfl, hz⟩ := lgP_form hP
  rw [lgSt_tup, hz, Bool.true_and, Bool.and_eq_true] at h
  obtain ⟨h1, h2⟩ := h
  rw [lgSt_tup, hz, h1, Bool.true_and, Bool.true_and, szSt_tup, szSt_tup]
  by_cases c : z = "if"
  · subst c
    obtain ⟨a, b, x, y, rfl⟩ := if_form hz
    cases l with
    | zero => cases h2
    | succ l' =>
      have e : (lgB rs size l' false x && lgB rs size l' false y) = true := h2
      rw [Bool.and_eq_true] at e
      obtain ⟨a1, a2⟩ := hb l' rfl _ _ e.1
      obtain ⟨b1, b2⟩ := hb l' rfl _ _ e.2
      refine ⟨?_, ?_⟩
      · show (lgB rs size (l' + 1) false x && lgB rs size (l' + 1) false y) = true
        rw [a1, b1]
        rfl
      · show 2 + szB (l' + 1) x + szB (l' + 1) y = 2 + szB l' x + szB l' y
        rw [a2, b2]
  · by_cases c2 : z = "while"
    · subst c2
      obtain ⟨a, b, x, rfl⟩ := wh_form hz
      cases l with
      | zero => cases h2
      | succ l' =>
        have e : lgB rs size l' true x = true := h2
        obtain ⟨a1, a2⟩ := hb l' rfl _ _ e
        refine ⟨?_, ?_⟩
        · show lgB rs size (l' + 1) true x = true
          exact a1
        · show 3 + szB (l' + 1) x = 3 + szB l' x
          rw [a2]
    · rw [lgIn_leaf ⟨c, c2⟩, szZ_leaf ⟨c, c2⟩, szZ_leaf ⟨c, c2⟩]
      exact ⟨rfl, rfl⟩
theorem lgB_up : ∀ (l : Nat) (i : Bool) (d : PyData), lgB rs size l i d = true → lgB rs size (l + 1) i d = true ∧ szB (l + 1) d = szB l d := by
  have key : ∀ {l : Nat} {i : Bool}, (∀ d, lgSt rs size (lfOf rs size l) i d = true → lgSt rs size (lfOf rs size (l + 1)) i d = true ∧ szSt (sfOf (l + 1)) d = szSt (sfOf l) d) → ∀ d, lgB rs size l i d = true → lgB rs size (l + 1) i d = true ∧ szB (l + 1) d = szB l d := by
    intro l i hs d h
    obtain ⟨ds, rfl, hall⟩ := lgB_tup h
    refine ⟨?_, ?_⟩
    · rw [lgB_eq]
      exact List.all_eq_true.2 fun e he => (hs e (hall e he)).1
    · rw [szB_eq, szB_eq]
      show (ds.map (szSt (sfOf (l + 1)))).sum = (ds.map (szSt (sfOf l))).sum
      rw [List.map_congr_left fun e he => (hs e (hall e he)).2]
  intro l
  induction l with
  | zero => exact fun i => key fun d => up_st fun l' e => by cases e
  | succ l ih => exact fun i => key fun d => up_st fun l' e => by cases e; exact ih
end
theorem ite_z {a : Prop} [Decidable a] {W Z : Prop} (z : Z) (h : a → Z → W) : if a then W else Z := by
  by_cases c : a
  · rw [if_pos c]
    exact h c z
  · rw [if_neg c]
    exact z
/-- a drawn source -/
structure SPl where
  blk : PyData
  ws : List Str
  size : Int
structure SPl.Ok (g : SPl) : Prop where
  nl : noL g.blk = true
  wk : WordsOk g.ws
  s2 : 2 ≤ g.size
  s3 : g.size ≤ 3
  ok : okB g.ws g.size g.blk = true
def plKV (bv : V) (wa : Addr) (size : Int) : List (Key × V) := [(.inr "block", bv), (.inr "words", .ref wa), (.inr "size", .int size)]
def SPlAt (K : PySem.W.Frag) (H : Hp) (d : Addr) (g : SPl) : Prop := ∃ bv wa, H d = some (.dK (plKV bv wa g.size)) ∧ Dp K H bv g.blk ∧ SqT K H wa (g.ws.map V.str)
section
variable {P : Program} {w : World} {K : PySem.W.Frag} {mg : Str → Option Value} {base : Heap}
def spLSPlan (K : PySem.W.Frag) : Sp := fun vs H Q _ => ∃ (p : Addr) (pl : Bool), vs = [.ref p, .bl pl] ∧ Pool H p ∧ ∀ d G g, Gr p H G → H d = none → SPlAt K G d g → g.Ok → Q (.ref d) G
theorem scLSPlan : FnScope ["pool", "plain", "words", "size", "kinds", "block", "turn"] ["pool", "plain"] (defScope sLSPlan) := ⟨rfl, rfl, rfl, by decide +kernel, rfl, by decide +kernel, by decide +kernel⟩
theorem c_lSPlan {k : Nat} (D : Def K mg "_law_source_plan" sLSPlan ["pool", "plain"]) (T : Bl mg) (hk : 2 ≤ k) (cD : FnC P w K mg base CX0 1 "_law_draw" ["pool", "many"] spDraw) (cW : FnC P w K mg base CX0 2 "_law_words" ["pool"] (spWords K)) (cZ : FnC P w K mg base CX0 k "_law_block_size" ["block"] (spLSize K 4)) (cB : FnC P w K mg base CX0 k "_law_block" ["pool", "words", "size", "deep", "inside", "kinds"] (spLBlock K 4)) (cB2 : FnC P w K mg base CX0 k "_law_block" ["pool", "words", "size", "deep", "inside", "kinds"] (spLBlock K 3)) :
    FnC P w K mg base CX0 (k + 1) "_law_source_plan" ["pool", "plain"] (spLSPlan K) := by
  refine D.ok scLSPlan (fun vs H Q E h => ?_) (fun f cdv A outer s H vs Q E hr h => ?_)
  · obtain ⟨p, pl, rfl, _⟩ := h
    rfl
  · obtain ⟨p, pl, rfl, hP, kq⟩ := h
    have sc := scLSPlan
    have hr2 : Room 2 _ := hr.mono hk
    have hr1 : Room 1 _ := hr2.mono (by decide)
    have hrz := hr
    have hz := sizeLine_eq
    refine ⟨_, (pss_cut (ps_par (i := 2) (j := 3) (by rfl) sc.nd rfl rfl (by decide) rfl rfl (pa_cons (pe_c cW hr2 rfl (pa_cons (pv 0) pa_nil)) (pa_cons (pe_op op_add pe_int (pe_callTy call_int1 (by rfl) T.n_int (by decide +kernel) (pa_cons (pe_cmpR op_eq (pe_c cD hr1 rfl (pa_cons (pv 0) (pa_cons pe_int pa_nil))) pe_int (nomark _)) pa_nil))) pa_nil)) (by rfl))
    (pss_cut (ps_set (i := 4) sc.nd rfl (Or.inl rfl) (pe_lst (pa_cons pe_str (pa_cons pe_str (pa_cons pe_str (pa_cons pe_str (pa_cons pe_str (pa_cons pe_str (pa_cons pe_str (pa_cons pe_str (pa_cons pe_str (pa_cons pe_str (pa_cons pe_str pa_nil)))))))))))))
    (pss_cut (ps_set (i := 4) sc.nd rfl (Or.inl rfl) (pe_op op_cat (pv 4) (pe_ifExp (pt_cmpR op_eq (pe_c cD hr1 rfl (pa_cons (pv 0) (pa_cons pe_int pa_nil))) pe_int (nomark _)) (pe_lst (pa_cons pe_str pa_nil)) (pe_lst pa_nil))))
    (pss_cut (ps_set (i := 4) sc.nd rfl (Or.inl rfl) (pe_ifExp (pt_val (pv 1)) (pv 4) (pe_op op_cat (pv 4) (pe_lst (pa_cons pe_str (pa_cons pe_str (pa_cons pe_str pa_nil)))))))
    (pss_cut (ps_set (i := 5) sc.nd rfl (Or.inl rfl) (pe_c cB hr rfl (pa_cons (pv 0) (pa_cons (pv 2) (pa_cons (pv 3) (pa_cons pe_int (pa_cons pe_bl (pa_cons (pv 4) pa_nil))))))))
    (pss_cut (ps_for PassesOwn.never rfl (pi_range1 (by rfl) T.n_range (pa_cons pe_int pa_nil)) (pg_name (i := 6) sc.nd rfl (Or.inl rfl))
      (pss_one (ps_if (pt_cmpR op_gt (pe_c cZ hrz rfl (pa_cons (pv 5) pa_nil)) pe_int (nomark _)) (pss_one (ps_set (i := 5) sc.nd rfl (Or.inl rfl) (pe_c cB2 hr rfl (pa_cons (pv 0) (pa_cons (pv 2) (pa_cons (pv 3) (pa_cons pe_int (pa_cons pe_bl (pa_cons (pv 4) pa_nil))))))))) pss_nil)))
    (pss_cut (ps_if (pt_not (pt_chain op_le op_le pe_int (pe_c cZ hrz rfl (pa_cons (pv 5) pa_nil)) pe_int)) (pss_one (ps_set (i := 5) sc.nd rfl (Or.inl rfl) (pe_tup (pa_cons (pe_tup (pa_cons pe_str (pa_cons (pe_ix ix_tup (pv 2) pe_int (fun _ _ => rfl)) pa_nil))) (pa_cons (pe_tup (pa_cons pe_str (pa_cons (pe_ix ix_tup (pv 2) pe_int (fun _ _ => rfl)) (pa_cons pe_int (pa_cons (pe_tup (pa_cons (pe_tup (pa_cons pe_str (pa_cons pe_str pa_nil))) pa_nil)) (pa_cons (pe_tup pa_nil) pa_nil)))))) (pa_cons (pe_tup (pa_cons pe_str (pa_cons pe_str pa_nil))) pa_nil)))))) pss_nil)
    (pss_one (ps_ret (pe_disp (pps_cons pe_str (pv 5) (pps_cons pe_str (pv 2) (pps_cons pe_str (pv 3) pps_nil))) rfl rfl (by decide) (by decide))))))))))), ?_⟩
    refine cut_hide (fun τ G => ∃ wa ws size, τ = [some (.ref p), some (.bl pl), some (.ref wa), some (.int size), none, none, none] ∧ Gr p H G ∧ SqT K G wa (ws.map V.str) ∧ WordsOk ws ∧ 2 ≤ size ∧ size ≤ 3) (fun M' hM => ?_) ?_
    · walk_at "wp"
      refine ⟨p, rfl, hP, fun wa ws G g hw wk => ⟨p, 3, rfl, g.pool, by decide, fun v F v0 v1 g2 => ?_⟩⟩
      refine ⟨rfl, hM _ _ ⟨wa, ws, _, rfl, g.trans g2, g2.tup g.pool hw, wk, ?_, ?_⟩⟩
      · split <;> omega
      · split <;> omega
    rintro τ G ⟨wa, ws, size, rfl, g, hw, wk, s2, s3⟩
    refine cut_hide (fun τ F => ∃ (ka : Addr) (ks : List Str), τ = [some (.ref p), some (.bl pl), some (.ref wa), some (.int size), some (.ref ka), none, none] ∧ Gr p H F ∧ DrIn K F p wa ka ws size 0 3 ks ∧ ks.length ≤ 11) (fun M' hM => ?_) ?_
    · walk_at "wp"
      refine ⟨by decide, fun q nq => ?_⟩
      have gq := Gr.new (o := .lst [V.str "take", V.str "take", V.str "take", V.str "if", V.str "if", V.str "while", V.str "while", V.str "group", V.str "group", V.str "set", V.str "copy"]) g.pool nq
      exact hM _ _ ⟨q, ["take", "take", "take", "if", "if", "while", "while", "group", "group", "set", "copy"], rfl, g.trans gq, ⟨gq.pool, sqT_new hw nq, wk, s2, s3, rfl, upd_same, (g.pool.ne_none nq).symm, by simp, by decide +kernel⟩, by decide⟩
    rintro τ G1 ⟨ka, ks, rfl, g1, h1, kl1⟩
    have cat : ∀ {F : Hp} {ka : Addr} {ks more : List Str} {m : Nat}, Gr p H F → DrIn K F p wa ka ws size 0 3 ks → ks.length + more.length ≤ m → m ≤ 20 → (∀ z ∈ more, z ∈ kindsA) → ∀ q, F q = none →
        ∃ x, upd F q (.lst (more.map V.str)) ka = some (.lst x) ∧ ∃ x1, upd F q (.lst (more.map V.str)) q = some (.lst x1) ∧ x.length + x1.length ≤ sizeLine ∧ ∀ r, upd F q (.lst (more.map V.str)) r = none →
          Gr p H (upd (upd F q (.lst (more.map V.str))) r (.lst (x ++ x1))) ∧ ∃ ks' : List Str, DrIn K (upd (upd F q (.lst (more.map V.str))) r (.lst (x ++ x1))) p wa r ws size 0 3 ks' ∧ ks'.length ≤ m := fun {F ka ks more m} g h hl hm hi q nq => by
      refine ⟨ks.map V.str, by rw [upd_ne (ne_of_none h.k nq)]; exact h.k, more.map V.str, upd_same, by rw [List.length_map, List.length_map, sizeLine_eq]; omega, fun r nr => ?_⟩
      have ga := Gr.new (o := .lst (more.map V.str)) g.pool nq
      have gb := Gr.new (o := .lst (ks.map V.str ++ more.map V.str)) ga.pool nr
      have h2 := (h.gr ga).gr gb
      refine ⟨(g.trans ga).trans gb, ks ++ more, ⟨h2.P, h2.w, h2.wk, h2.s2, h2.s3, h2.dl, by rw [upd_same, List.map_append], (ga.pool.ne_none nr).symm, by simp [h.kn], fun z hz => ?_⟩, by rw [List.length_append]; exact hl⟩
      rcases List.mem_append.1 hz with hz | hz
      · exact h.ki z hz
      · exact hi z hz
    refine cut_hide (fun τ F => ∃ (ka : Addr) (ks : List Str), τ = [some (.ref p), some (.bl pl), some (.ref wa), some (.int size), some (.ref ka), none, none] ∧ Gr p H F ∧ DrIn K F p wa ka ws size 0 3 ks ∧ ks.length ≤ 12) (fun M' hM => ?_) ?_
    · walk_at "wp"
      refine ⟨p, 3, rfl, g1.pool, by decide, fun v F v0 v1 g2 => ⟨rfl, ite2 (fun _ => ⟨by decide, fun q nq => ?_⟩) fun _ => ⟨by decide, fun q nq => ?_⟩⟩⟩
      · obtain ⟨x, e1, x1, e2, e3, e4⟩ := cat (more := ["meet"]) (m := 12) (g1.trans g2) (h1.gr g2) (by show ks.length + 1 ≤ 12; omega) (by decide) (by decide +kernel) q nq
        refine ⟨x, e1, x1, e2, e3, fun r nr => ?_⟩
        obtain ⟨a, ks', b, c⟩ := e4 r nr
        exact hM _ _ ⟨r, ks', rfl, a, b, c⟩
      · obtain ⟨x, e1, x1, e2, e3, e4⟩ := cat (more := []) (m := 12) (g1.trans g2) (h1.gr g2) (by show ks.length + 0 ≤ 12; omega) (by decide) (fun z hz => (nomatch hz)) q nq
        refine ⟨x, e1, x1, e2, e3, fun r nr => ?_⟩
        obtain ⟨a, ks', b, c⟩ := e4 r nr
        exact hM _ _ ⟨r, ks', rfl, a, b, c⟩
    clear h1 kl1
    rintro τ G2 ⟨ka, ks, rfl, g2, h2, kl2⟩
    refine cut_hide (fun τ F => ∃ (ka : Addr) (ks : List Str), τ = [some (.ref p), some (.bl pl), some (.ref wa), some (.int size), some (.ref ka), none, none] ∧ Gr p H F ∧ DrIn K F p wa ka ws size 0 3 ks) (fun M' hM => ?_) ?_
    · walk_at "wp"
      refine ite2 (fun _ => hM _ _ ⟨ka, ks, rfl, g2, h2⟩) fun _ => ⟨by decide, fun q nq => ?_⟩
      obtain ⟨x, e1, x1, e2, e3, e4⟩ := cat (more := ["any", "all", "same"]) (m := 15) g2 h2 (by show ks.length + 3 ≤ 15; omega) (by decide) (by decide +kernel) q nq
      refine ⟨x, e1, x1, e2, e3, fun r nr => ?_⟩
      obtain ⟨a, ks', b, c⟩ := e4 r nr
      exact hM _ _ ⟨r, ks', rfl, a, b⟩
    clear h2 kl2 cat
    rintro τ G3 ⟨ka, ks, rfl, g3, h3⟩
    refine cut_hide (fun τ F => ∃ bv d, τ = [some (.ref p), some (.bl pl), some (.ref wa), some (.int size), some (.ref ka), some bv, none] ∧ Gr p H F ∧ DrIn K F p wa ka ws size 0 3 ks ∧ Dp K F bv d ∧ noL d = true ∧ lgB ws size 3 false d = true) (fun M' hM => ?_) ?_
    · walk_at "wp"
      exact ⟨p, wa, ka, ws, size, 0, false, ks, rfl, h3, fun v d F g4 hv nv lv => hM _ _ ⟨v, d, rfl, g3.trans g4, h3.gr g4, hv, nv, lv⟩⟩
    rintro τ G4 ⟨bv, d, rfl, g4, h4, hb, nb, lb⟩
    refine cut_hide (fun τ F => ∃ bv d u, τ = [some (.ref p), some (.bl pl), some (.ref wa), some (.int size), some (.ref ka), some bv, u] ∧ Gr p H F ∧ DrIn K F p wa ka ws size 0 3 ks ∧ Dp K F bv d ∧ noL d = true ∧ lgB ws size 3 false d = true) (fun M' hM => ?_) ?_
    · walk_at "wp"
      refine ⟨by decide, by decide, ?_⟩
      refine loop_it (walk_range (lo := 0)) (fun i τ F => ∃ bv d u, τ = [some (.ref p), some (.bl pl), some (.ref wa), some (.int size), some (.ref ka), some bv, u] ∧ Gr p H F ∧ DrIn K F p wa ka ws size 0 3 ks ∧ Dp K F bv d ∧ noL d = true ∧ lgB ws size 3 false d = true) ⟨bv, d, _, rfl, g4, h4, hb, nb, lb⟩ (fun _ _ _ _ _ => True.intro) ?_ ?_
      · rintro i x τ F F2 hi ⟨bv, d, u, rfl, gF, hF, hb, nb, lb⟩ ⟨rfl, rfl⟩
        walk_at "wp"
        refine ⟨bv, d, ws, size, false, rfl, hb, lb, fun F3 s => ⟨_, rfl, ite2 (fun c => ?_) fun c => ?_⟩⟩
        · have g3 := Gr.ofSame gF.pool s
          have h3 : DrIn K F3 p wa ka ws size 1 2 ks := { hF.gr g3 with dl := rfl }
          refine ⟨p, wa, ka, ws, size, 1, false, ks, rfl, h3, fun v d2 F4 g4 hv nv lv => ?_⟩
          exact ⟨⟨_, rfl⟩, (gF.trans g3).trans g4, (hF.gr g3).gr g4, d2, hv, nv, (lgB_up 2 false d2 lv).1⟩
        · exact ⟨⟨_, rfl⟩, gF.trans (Gr.ofSame gF.pool s), hF.gr (Gr.ofSame gF.pool s), d, dp_same s _ _ hb, nb, lb⟩
      · rintro τ F ⟨bv, d, u, rfl, r⟩
        exact hM _ _ ⟨bv, d, u, rfl, r⟩
    clear hb nb lb
    rintro τ G5 ⟨bv, d, u, rfl, g5, h5, hb, nb, lb⟩
    refine cut_hide (fun τ F => ∃ bv d u, τ = [some (.ref p), some (.bl pl), some (.ref wa), some (.int size), some (.ref ka), some bv, u] ∧ Gr p H F ∧ DrIn K F p wa ka ws size 0 3 ks ∧ Dp K F bv d ∧ noL d = true ∧ okB ws size d = true) (fun M' hM => ?_) ?_
    · walk_at "wp"
      refine ⟨bv, d, ws, size, false, rfl, hb, lb, fun A sA => ⟨_, rfl, ?_⟩⟩
      have gA := Gr.ofSame g5.pool sA
      have gHA := g5.trans gA
      have hA := h5.gr gA
      have good : 1 ≤ szB 3 d → szB 3 d ≤ 24 → okB ws size d = true := fun a b => by
        rw [ok_law, lb, decide_eq_true a, decide_eq_true b]
        rfl
      obtain ⟨w0, wr, ew⟩ : ∃ w0 wr, ws = w0 :: wr := by
        cases ws with
        | nil => exact absurd wk.least (by simp)
        | cons a b => exact ⟨a, b, rfl⟩
      refine ite_z ?_ fun c1 z => ⟨_, rfl, ite2 (fun c2 => hM _ _ ⟨bv, d, u, rfl, gHA, hA, dp_same sA _ _ hb, nb, good (Int.ofNat_le.1 (show ((1 : Nat) : Int) ≤ ((szB 3 d : Nat) : Int) from c1)) (Int.ofNat_le.1 (show ((szB 3 d : Nat) : Int) ≤ ((24 : Nat) : Int) from c2))⟩) fun _ => z⟩
      have hw0 := hA.w
      have ew2 : ws.map V.str = .str w0 :: wr.map V.str := by rw [ew]; rfl
      rw [ew2] at hw0
      refine ⟨_, hw0, .str w0, at_of (j := 0) rfl rfl, by decide, fun p1 n1 => ?_⟩
      have s1 := same_new (o := .tup [V.str "take", V.str w0]) n1
      have d1 := mk_st (K := K) (vs := [V.str "take", V.str w0]) (ds := [.str "take", .str w0]) n1 (.cons (.str _) (.cons (.str _) .nil))
      generalize upd A p1 (.tup [V.str "take", V.str w0]) = A1 at s1 d1
      refine ⟨_, Same.sqT s1 hw0, .str w0, at_of (j := 0) rfl rfl, by decide, fun p2 n2 => ?_⟩
      have s2' := same_new (o := .tup [V.str "group", V.str "g"]) n2
      have d2 := mk_st (K := K) (vs := [V.str "group", V.str "g"]) (ds := [.str "group", .str "g"]) n2 (.cons (.str _) (.cons (.str _) .nil))
      generalize upd A1 p2 (.tup [V.str "group", V.str "g"]) = A2 at s2' d2
      refine ⟨by decide, fun p3 n3 => ?_⟩
      have s3' := same_new (o := .tup [V.ref p2]) n3
      have d3 := mk_st (K := K) n3 (.cons d2 .nil)
      generalize upd A2 p3 (.tup [V.ref p2]) = A3 at s3' d3
      refine ⟨by decide, fun p4 n4 => ?_⟩
      have s4 := same_new (o := .tup []) n4
      have d4 := mk_st (K := K) (vs := []) (ds := []) n4 .nil
      generalize upd A3 p4 (.tup []) = A4 at s4 d4
      refine ⟨by decide, fun p5 n5 => ?_⟩
      have s5 := same_new (o := .tup [V.str "if", V.str w0, V.int 1, V.ref p3, V.ref p4]) n5
      have d5 := mk_st (K := K) (vs := [V.str "if", V.str w0, V.int 1, V.ref p3, V.ref p4]) (ds := [.str "if", .str w0, .int 1, _, _]) n5 (.cons (.str _) (.cons (.str _) (.cons (.int _) (.cons (dp_same s4 _ _ d3) (.cons d4 .nil)))))
      generalize upd A4 p5 (.tup [V.str "if", V.str w0, V.int 1, V.ref p3, V.ref p4]) = A5 at s5 d5
      refine ⟨by decide, fun p6 n6 => ?_⟩
      have s6 := same_new (o := .tup [V.str "group", V.str "h"]) n6
      have d6 := mk_st (K := K) (vs := [V.str "group", V.str "h"]) (ds := [.str "group", .str "h"]) n6 (.cons (.str _) (.cons (.str _) .nil))
      generalize upd A5 p6 (.tup [V.str "group", V.str "h"]) = A6 at s6 d6
      refine ⟨by decide, fun p7 n7 => ?_⟩
      have s7 := same_new (o := .tup [V.ref p1, V.ref p5, V.ref p6]) n7
      have d7 := mk_st (K := K) n7 (.cons (dp_same (((((s2'.trans s3').trans s4).trans s5).trans s6)) _ _ d1) (.cons (dp_same s6 _ _ d5) (.cons d6 .nil)))
      generalize upd A6 p7 (.tup [V.ref p1, V.ref p5, V.ref p6]) = A7 at s7 d7
      have sAll : Same A A7 := (((((s1.trans s2').trans s3').trans s4).trans s5).trans s6).trans s7
      have gAll := Gr.ofSame gHA.pool sAll
      refine hM _ _ ⟨_, _, u, rfl, gHA.trans gAll, hA.gr gAll, d7, rfl, ?_⟩
      have lw : lpB ws size 114 (.str w0) = true := pl_place (by rw [ew]; exact List.mem_cons_self)
      have l1 : lpB ws size 118 (.int 1) = true := pl_val (by decide) (by omega)
      have grp : ∀ {l : Nat} (y : Str), wordB (.str y) = true → lgSt ws size (lfOf ws size l) false (.tuple [.str "group", .str y]) = true := fun {l} y hy => st_leaf (cs := [119]) rfl (by decide) (by decide) (by
        show (wordB (.str y) && true) = true
        rw [hy]
        rfl)
      have e1 : lgB ws size 2 false (.tuple [.tuple [.str "group", .str "g"]]) = true := by
        rw [lgB_eq]
        exact List.all_eq_true.2 fun e he => by
          rw [List.mem_singleton.1 he]
          exact grp _ (by decide +kernel)
      have e2 : lgB ws size 2 false (.tuple []) = true := rfl
      have e3 : lgB ws size 3 false (.tuple [.tuple [.str "take", .str w0], .tuple [.str "if", .str w0, .int 1, .tuple [.tuple [.str "group", .str "g"]], .tuple []], .tuple [.str "group", .str "h"]]) = true := by
        rw [lgB_eq]
        refine List.all_eq_true.2 fun e he => ?_
        simp only [List.mem_cons, List.not_mem_nil, or_false] at he
        rcases he with rfl | rfl | rfl
        · exact st_leaf (cs := [114]) rfl (by decide) (by decide) (lps_one lw rfl)
        · exact st_if (lps_one lw (lps_one l1 rfl)) rfl rfl e1 e2
        · exact grp _ (by decide +kernel)
      rw [ok_law, e3]
      rfl
    clear hb nb lb
    rintro τ G6 ⟨bv, d, u, rfl, g6, h6, hb, nb, ok⟩
    walk_at "wp"
    intro q nq
    refine ⟨upd_same, plKV bv wa size, rfl, (by show (3 : Nat) ≤ 15; decide), ?_⟩
    have e0 : upd (upd G6 q (.dK [])) q (.dK (mergeK [] (plKV bv wa size))) = upd G6 q (.dK (plKV bv wa size)) := by
      rw [upd_upd]
      rfl
    rw [e0]
    refine kq q _ ⟨d, ws, size⟩ (g6.trans (Gr.new g6.pool nq)) (g6.free hP nq) ⟨bv, wa, upd_same, dp_same (same_new nq) _ _ hb, sqT_new h6.w nq⟩ ⟨nb, h6.wk, s2, s3, ok⟩
end

end YY

set_option maxRecDepth 100000
set_option maxHeartbeats 4000000
namespace YY
open PySem PySem.Spec PyProof.Rows L2 XX
local macro_rules | `(tactic| walk_at "wp") => `(tactic| simp only [Int.zero_add, L2.start, LcEnd, List.append_nil, List.cons.injEq, List.cons_append, List.getElem?_cons_succ, List.getElem?_cons_zero, List.length_cons, List.length_nil, List.map_cons, List.map_nil, List.nil_append, List.replicate, List.replicate_succ, List.replicate_zero, List.set_cons_succ, List.set_cons_zero, Nat.reduceAdd, Nat.reduceSub, Option.some.injEq, StX.tMakeR, StX.tStar, V.bl.injEq, V.int.injEq, V.ref.injEq, V.str.injEq, V.ty.injEq, WE, and_assoc, and_false, and_true, bool_ite_false, bool_ite_true, cxOf_K, cxOf_noxK, dec_ite, decide_eq_true_eq, exists_and_left, exists_and_right, exists_const, exists_eq_left, exists_eq_left', false_and, false_or, gCons, gName, gNil, gSub, gTup, iEnumA, iItems, iKeys, iList, iRng1, iRng2, iStr, iTup, iZipB, ite_false, ite_true, ndec_ite, or_false, rAppend, rCat, rCatT, rEq, rEqI, rEqK, rEqV, rExt2, rI, rI0, rIn, rInRg, rIndex, rIsD, rIsE, rIsE2, rIxD, rIxL, rIxS, rIxT, rLenI, rLenK, rListStr, rMax, rMaxDef, rSetIM, rEqT, sFldAug, rAdd, rMin, rMulS, rNe, rNeDA, rNeV, rRange1, rRep, rRepA, rReprE, rReprI, rSetD, rSetI, rSetL, rSlL, rSlT, rSortedSet, rU, reduceCtorEq, reduceIte, sFld, tAnd, tAndV, tAsg, tAug, tB, tBM, tBM0, tC, tCB, tCKw, tDGetT, tCall, tCallS, tChain, tCons, tDGet, tDIn, tDNewK, tDNotIn, tDcT_eq, tDc_eq, tDisp, tDrop, tErr, tFld, tFor_eq, tIf, tIfS, tIxI, tLc2_eq, tLc_eq, tLenSetS, tLock, tLockE, tLst, tLstRg, tM1, tMakeRS, tMakeS, tMakeV, tMakeVS, tMeth, tMethX, tMkO, tMulA, tMulD, tNext, tNil, tNoPart, tNot, tNotV, tOp, tOpI, tOpR, tOr, tOrV, tOst, tPairs, tPar, tPar3, tPart, tRet, tRetN, tRevT, tRg2, tSMeth, tSeq, tSl, tTest, tTup, tUn, tVar, tVeI, tXf, tYes, true_and, wAs, wMA, wipe, rSum])
/-! ### _law_heard -/
abbrev sLHeard : Stmt := topS 53
structure ExmS (K : PySem.W.Frag) (cR cN cB : Addr) : Prop where
  RR : PySem.W.exmOne K (.ref cR) (.ref cR) = some true
  NR : PySem.W.exmOne K (.ref cN) (.ref cR) = some false
  NN : PySem.W.exmOne K (.ref cN) (.ref cN) = some true
  BR : PySem.W.exmOne K (.ref cB) (.ref cR) = some false
  BN : PySem.W.exmOne K (.ref cB) (.ref cN) = some false
  BB : PySem.W.exmOne K (.ref cB) (.ref cB) = some true
structure SIn (K : PySem.W.Frag) (H : Hp) (bv wv zv : V) (bd wd zd : PyData) : Prop where
  b : Dp K H bv bd
  w : Dp K H wv wd
  z : Dp K H zv zd
  bs : sm bd = true
  ws : sm wd = true
  bp : Rp bd
  wp : Rp wd
  zp : Rp zd
theorem SIn.same {K : PySem.W.Frag} {H G : Hp} {bv wv zv : V} {bd wd zd : PyData} (s : Same H G) (h : SIn K H bv wv zv bd wd zd) : SIn K G bv wv zv bd wd zd := ⟨dp_same s _ _ h.b, dp_same s _ _ h.w, dp_same s _ _ h.z, h.bs, h.ws, h.bp, h.wp, h.zp⟩
def heardL (bd wd zd : PyData) : List Str := if regsB wd = false then ["registers", wd.shown] else if btw zd 2 3 = false then ["number", zd.shown] else if okB (strsOf wd) (intOf zd) bd = false then ["block", bd.shown] else ["made"]
section
variable {P : Program} {w : World} {K : PySem.W.Frag} {mg : Str → Option Value} {base : Heap}
def spLHeard (K : PySem.W.Frag) : Sp := fun vs H Q _ => ∃ (bv wv zv : V) (bd wd zd : PyData), vs = [bv, wv, zv] ∧ SIn K H bv wv zv bd wd zd ∧ ∀ D G, Same H G → H D = none → G D = some (.lst ((heardL bd wd zd).map V.str)) → Q (.ref D) G
theorem scLHeard : FnScope ["block", "words", "size", "source", "e"] ["block", "words", "size"] (defScope sLHeard) := ⟨rfl, rfl, rfl, by decide +kernel, rfl, by decide +kernel, by decide +kernel⟩
theorem c_lHeard {f fI CS CP : Addr} {fd : FuncData} {cR cN cW cBr cB : Addr} (D : Def K mg "_law_heard" sLHeard ["block", "words", "size"]) (T : Bl3 mg) (gS : mg "Source" = some (.ref CS)) (M : Mk K CS f) (scs : SrcC K CS) (ER : Errs K mg fI cR cN cW cBr) (EB : ErrC K mg "BadBlock" cB fI) (X4 : ExmS K cR cN cB)
    (hb : KBn K fd ["self", "block", "registers", "values"] 2 ["registers", "values"] gCat gCat) (F : FnOk P w K mg base (L2.CX P w) 15 f fd ["self", "block", "registers", "values"] (spSrc K CS CP cR cN cB)) : FnD P w K mg base CX0 17 "_law_heard" ["block", "words", "size"] (spLHeard K) := by
  refine D.okG scLHeard (fun vs H Q E h => ?_) (fun f' cdv A outer s H vs Q E hgu hr h => ?_)
  · obtain ⟨bv, wv, zv, bd, wd, zd, rfl, _⟩ := h
    rfl
  · obtain ⟨bv, wv, zv, bd, wd, zd, rfl, hin, k⟩ := h
    have sc := scLHeard
    have hu80 : (A.deeper (envOfC "_law_heard" (defScope sLHeard) s.heap.objs.size f' cdv)).units + 80 < cLine := by have := hr.un; omega
    refine ⟨_, (pss_cut (ps_try_mas (i := 4) (n := "e") (Wout := fun _ _ _ _ => False) rfl rfl sc.nd rfl rfl takes0
        (fun W pn xe tkW hp => (pss_one (ps_set (i := 3) sc.nd rfl (Or.inl rfl) (pe_makeS (E := WE W) (n := 1) M F hr rfl gS hb (fun σ => passAt tkW σ) (pa_cons (pv 0) pa_nil) (pk_cons (pv 1) (pk_cons (pv 2) pk_nil))))))
        (HdsAs.cons ⟨rfl, by decide, .inl ER.R.g⟩ (fun a oe cls d pn hz hf => pss_one (ps_ret (pe_lst (pa_cons pe_str (pa_cons (pe_callB (call_reprEK K rfl hgu hu80) (by rfl) T.n_repr (by decide +kernel) (pa_cons (pe_xf ER.R.xf ER.R.no hz hf (pv 4)) pa_nil)) pa_nil)))))
        (HdsAs.cons ⟨rfl, by decide, .inl ER.N.g⟩ (fun a oe cls d pn hz hf => pss_one (ps_ret (pe_lst (pa_cons pe_str (pa_cons (pe_callB (call_reprEK K rfl hgu hu80) (by rfl) T.n_repr (by decide +kernel) (pa_cons (pe_xf ER.N.xf ER.N.no hz hf (pv 4)) pa_nil)) pa_nil)))))
        (HdsAs.cons ⟨rfl, by decide, .inl EB.g⟩ (fun a oe cls d pn hz hf => pss_one (ps_ret (pe_lst (pa_cons pe_str (pa_cons (pe_callB (call_reprEK K rfl hgu hu80) (by rfl) T.n_repr (by decide +kernel) (pa_cons (pe_xf EB.xf EB.no hz hf (pv 4)) pa_nil)) pa_nil)))))
        HdsAs.nil))))
    (pss_one (ps_ret (pe_ifExp (pt_cmpR (op_eqD hr.units) (pe_fld (pv 3) rfl) (pv 0) (nomark _)) (pe_lst (pa_cons pe_str pa_nil)) (pe_lst (pa_cons pe_str pa_nil)))))), ?_⟩
    have fresh : ∀ {G1 : Hp} {D2 : Addr}, Same H G1 → G1 D2 = none → H D2 = none := fun {G1 D2} g h => none_back g h
    have tell : ∀ (kind : Str) (v : V) (d : PyData) (G1 : Hp), heardL bd wd zd = [kind, d.shown] → Same H G1 → DpE K G1 v d → Rp d → ∃ x, DpE K G1 v x ∧ Rp x ∧ 2 ≤ sizeLine ∧ ∀ p, G1 p = none → Q (.ref p) (upd G1 p (.lst [V.str kind, V.str x.shown])) := fun kind v d G1 e g hv hp =>
      ⟨d, hv, hp, by decide, fun p hp => k p _ (g.trans (same_new hp)) (fresh g hp) (by rw [upd_same, e]; rfl)⟩
    refine cut_hide (fun τ G => ∃ (x : Addr), τ = [some bv, some wv, some zv, some (.ref x), none] ∧ Same H G ∧ SrcAt K CS CP G x bd (srcP (strsOf wd) (intOf zd) bd) ∧ heardL bd wd zd = ([Str.ofString "made"] : List Str) ∧ SeqAt.shaped bd = true) (fun M' hM => ?_) ?_
    · walk_at "wp"
      intro x dx hx hdx hne
      have s0 : Same H (upd (upd H dx (.own x)) x (.ins CS dx [])) := same_mut (same_new hdx) hx
      generalize hG0 : upd (upd H dx (.own x)) x (.ins CS dx []) = G0 at s0
      have hx0 : G0 x = some (.ins CS dx []) := by rw [← hG0, upd_same]
      refine ⟨x, dx, bv, wv, zv, bd, wd, zd, rfl, hx0, dp_same s0 _ _ hin.b, hin.bs, dp_same s0 _ _ hin.w, hin.ws, dp_same s0 _ _ hin.z, fun e1 G d g hd => ?_, fun e1 e2 G d g hd => ?_, fun e1 e2 e3 G d g hd => ?_, fun e1 e2 e3 G g hs => ?_⟩
      · have gs := (s0.trans g).trans (same_new (o := .xd [("value", wv)]) hd)
        refine ⟨true, X4.RR, fun _ a ha => ?_, fun h => nomatch h⟩
        walk_at "wp"
        exact ⟨_, upd_same, wv, rfl, tell _ wv wd _ (by unfold heardL; rw [if_pos e1]) gs (.inl (dp_same gs _ _ hin.w)) hin.wp⟩
      · have gs := (s0.trans g).trans (same_new (o := .xd [("value", zv)]) hd)
        refine ⟨false, X4.NR, (fun h => nomatch h), fun _ => ⟨true, X4.NN, fun _ a ha => ?_, fun h => nomatch h⟩⟩
        walk_at "wp"
        exact ⟨_, upd_same, zv, rfl, tell _ zv zd _ (by unfold heardL; rw [if_neg (by rw [e1]; exact Bool.noConfusion), if_pos e2]) gs (.inl (dp_same gs _ _ hin.z)) hin.zp⟩
      · have gs := (s0.trans g).trans (same_new (o := .xd [("value", bv)]) hd)
        refine ⟨false, X4.BR, (fun h => nomatch h), fun _ => ⟨false, X4.BN, (fun h => nomatch h), fun _ => ⟨true, X4.BB, fun _ a ha => ?_, fun h => nomatch h⟩⟩⟩
        walk_at "wp"
        exact ⟨_, upd_same, bv, rfl, tell _ bv bd _ (by unfold heardL; rw [if_neg (by rw [e1]; exact Bool.noConfusion), if_neg (by rw [e2]; exact Bool.noConfusion), if_pos e3]) gs (.inl (dp_same gs _ _ hin.b)) hin.bp⟩
      · refine ⟨rfl, hM _ _ ⟨x, rfl, fun b o hbo => g b o (fun z => ?_) (s0 b o hbo), hs, ?_, ?_⟩⟩
        · rw [z, hx] at hbo
          cases hbo
        · unfold heardL
          rw [if_neg (by rw [e1]; exact Bool.noConfusion), if_neg (by rw [e2]; exact Bool.noConfusion), if_neg (by rw [e3]; exact Bool.noConfusion)]
        · obtain ⟨_, hw, _⟩ := regs_strs e1
          obtain ⟨i, ei, i2, i3⟩ := btw_int e2
          have hz9 := ok_wz hw (by rw [ei]; exact i3) e3
          exact sm_shaped hz9.s (Nat.le_trans hz9.dp (by decide))
    rintro τ G ⟨x, rfl, g, ⟨dx, p, bv2, hx, hb2, hp⟩, hdue, sh⟩
    walk_at "wp"
    refine ⟨CS, dx, _, hx, scs.cls, scs.n1, _, rfl, bd, bd, hb2, dp_same g _ _ hin.b, sh, sh, _, rfl, ?_⟩
    rw [SeqAt.eqv_refl _ (SeqAt.canLay_of_shaped sh), if_pos rfl]
    exact ⟨by decide, fun q nq => k q _ (g.trans (same_new nq)) (fresh g nq) (by rw [upd_same, hdue]; rfl)⟩
end

end YY

set_option maxRecDepth 100000
set_option maxHeartbeats 4000000
namespace YY
open PySem PySem.Spec PyProof.Rows L2 XX
local macro_rules | `(tactic| walk_at "wp") => `(tactic| simp only [Int.zero_add, L2.start, LcEnd, List.append_nil, List.cons.injEq, List.cons_append, List.getElem?_cons_succ, List.getElem?_cons_zero, List.length_cons, List.length_nil, List.map_cons, List.map_nil, List.nil_append, List.replicate, List.replicate_succ, List.replicate_zero, List.set_cons_succ, List.set_cons_zero, Nat.reduceAdd, Nat.reduceSub, Option.some.injEq, StX.tMakeR, StX.tStar, V.bl.injEq, V.int.injEq, V.ref.injEq, V.str.injEq, V.ty.injEq, WE, and_assoc, and_false, and_true, bool_ite_false, bool_ite_true, cxOf_K, cxOf_noxK, dec_ite, decide_eq_true_eq, exists_and_left, exists_and_right, exists_const, exists_eq_left, exists_eq_left', false_and, false_or, gCons, gName, gNil, gSub, gTup, iEnumA, iItems, iKeys, iList, iRng1, iRng2, iStr, iTup, iZipB, ite_false, ite_true, ndec_ite, or_false, rAppend, rCat, rCatT, rEq, rEqI, rEqK, rEqV, rExt2, rI, rI0, rIn, rInRg, rIndex, rIsD, rIsE, rIsE2, rIxD, rIxL, rIxS, rIxT, rLenI, rLenK, rListStr, rMax, rMaxDef, rSetIM, rEqT, sFldAug, rAdd, rMin, rMulS, rNe, rNeDA, rNeV, rRange1, rRep, rRepA, rReprE, rReprI, rSetD, rSetI, rSetL, rSlL, rSlT, rSortedSet, rU, reduceCtorEq, reduceIte, sFld, tAnd, tAndV, tAsg, tAug, tB, tBM, tBM0, tC, tCB, tCKw, tDGetT, tCall, tCallS, tChain, tCons, tDGet, tDIn, tDNewK, tDNotIn, tDcT_eq, tDc_eq, tDisp, tDrop, tErr, tFld, tFor_eq, tIf, tIfS, tIxI, tLc2_eq, tLc_eq, tLenSetS, tLock, tLockE, tLst, tLstRg, tM1, tMakeRS, tMakeS, tMakeV, tMakeVS, tMeth, tMethX, tMkO, tMulA, tMulD, tNext, tNil, tNoPart, tNot, tNotV, tOp, tOpI, tOpR, tOr, tOrV, tOst, tPairs, tPar, tPar3, tPart, tRet, tRetN, tRevT, tRg2, tSMeth, tSeq, tSl, tTest, tTup, tUn, tVar, tVeI, tXf, tYes, true_and, wAs, wMA, wipe, rSum])
/-! ### _law_due -/
abbrev sLDue : Stmt := topS 52
theorem metS_nd {ws : List Str} (h1 : 1 ≤ ws.length) (h2 : ws.length ≤ 2) (h3 : ws.Nodup) : (metS ws ws.length).2 = ws.length := by
  match ws, h1, h2, h3 with
  | [z], _, _, _ => exact metS_one z
  | [z, z'], _, _, nd =>
    have ne : ¬ z = z' := fun e => by
      subst e
      simp at nd
    exact (metS_two z z').trans (if_neg ne)
def dueL (ws : List Str) (size : Int) (d : PyData) : List Str := if okB ws size d = false then ["block", d.shown] else ["made"]
section
variable {P : Program} {w : World} {K : PySem.W.Frag} {mg : Str → Option Value} {base : Heap}
def spLDue (K : PySem.W.Frag) : Sp := fun vs H Q _ => ∃ (bv : V) (bd : PyData) (wa : Addr) (ws : List Str) (size : Int), vs = [bv, .ref wa, .int size] ∧ Dp K H bv bd ∧ sm bd = true ∧ bd.depth ≤ 60 ∧ Rp bd ∧ SqT K H wa (ws.map V.str) ∧ WordsOk ws ∧ 2 ≤ size ∧ size ≤ 3 ∧ ∀ D G, Same H G → H D = none → G D = some (.lst ((dueL ws size bd).map V.str)) → Q (.ref D) G
theorem scLDue : FnScope ["block", "words", "size", "good", "word"] ["block", "words", "size"] (defScope sLDue) := ⟨rfl, rfl, rfl, by decide +kernel, rfl, by decide +kernel, by decide +kernel⟩
theorem c_lDue (D : Def K mg "_law_due" sLDue ["block", "words", "size"]) (T : Bl3 mg) {k : Nat} (hk : 1 ≤ k) (cD : FnC P w K mg base CX0 1 "_law_is_word" ["value"] (spIsWord K)) (cG : FnC P w K mg base CX0 k "_law_good" ["block", "words", "size", "deep", "inside"] (spLGood K 4)) (cZ : FnC P w K mg base CX0 k "_law_block_size" ["block"] (spLSize K 4)) : FnD P w K mg base CX0 (k + 1) "_law_due" ["block", "words", "size"] (spLDue K) := by
  refine D.okG scLDue (fun vs H Q E h => ?_) (fun f cdv A outer s H vs Q E hgu hr h => ?_)
  · obtain ⟨bv, bd, wa, ws, size, rfl, _⟩ := h
    rfl
  · obtain ⟨bv, bd, wa, ws, size, rfl, hb, hbs, hbd, hbr, hwa, wk, s2, s3, kq⟩ := h
    have sc := scLDue
    have hr1 : Room 1 _ := hr.mono hk
    have hu80 : (A.deeper (envOfC "_law_due" (defScope sLDue) s.heap.objs.size f cdv)).units + 80 < cLine := by have := hr.un; omega
    refine ⟨_, (pss_cut (ps_set (i := 3) sc.nd rfl (Or.inl rfl) (pe_and (pe_callB (call_isD ty_tuple) (by rfl) T.n_isinstance (by decide +kernel) (pa_cons (pv 1) (pa_cons (pe_ty "tuple" (by rfl) T.n_tuple) pa_nil))) (L2.pe_one (pe_chain op_le op_le pe_int (pe_callB call_len_seq (by rfl) T.n_len (by decide +kernel) (pa_cons (pv 1) pa_nil)) pe_int))))
    (pss_cut (ps_if (PW.pt (pw_or (pt_not (pt_val (pv 3))) (pw_or (pt_cmpR (op_neD hr.units) (pe_lc (own := [("word", 4)]) (g := gName 4) rfl sc.nd (pi_tup (pv 1)) (blkOk_by (N := ["block", "words", "size", "good", "word"]) (sc := defScope sLDue) (by decide +kernel)) (fun _ _ _ _ _ => (pg_name (i := 4) sc.nd rfl (Or.inl rfl))) (fun _ _ _ _ _ => (pts_one (pt_not (pt_val (pe_c cD hr1 rfl (pa_cons (pv 4) pa_nil)))))) (fun _ _ _ _ _ => (pv 4))) (pe_lst pa_nil) (nomark _)) (pw_or1 (pt_cmpR op_ne (pe_lenSetS rfl (by rfl) T.n_len (by rfl) T.n_set (pv 1)) (pe_callB call_len_seq (by rfl) T.n_len (by decide +kernel) (pa_cons (pv 1) pa_nil)) (nomark _)))))) (pss_one (ps_ret (pe_lst (pa_cons pe_str (pa_cons (pe_callB (call_reprE hgu hu80) (by rfl) T.n_repr (by decide +kernel) (pa_cons (pv 1) pa_nil)) pa_nil))))) pss_nil)
    (pss_cut (ps_if (PW.pt (pw_or (pt_val (pe_callB (call_isD ty_bool) (by rfl) T.n_isinstance (by decide +kernel) (pa_cons (pv 2) (pa_cons (pe_ty "bool" (by rfl) T.n_bool) pa_nil)))) (pw_or1 (pt_cmpR op_notIn_seq (pv 2) (pe_lst (pa_cons pe_int (pa_cons pe_int pa_nil))) (by rfl))))) (pss_one (ps_ret (pe_lst (pa_cons pe_str (pa_cons (pe_callB (call_reprE hgu hu80) (by rfl) T.n_repr (by decide +kernel) (pa_cons (pv 2) pa_nil)) pa_nil))))) pss_nil)
    (pss_cut (ps_if (PW.pt (pw_or (pt_not (pt_val (pe_c cG hr rfl (pa_cons (pv 0) (pa_cons (pv 1) (pa_cons (pv 2) (pa_cons pe_int (pa_cons pe_bl pa_nil)))))))) (pw_or1 (pt_not (pt_chain op_le op_le pe_int (pe_c cZ hr rfl (pa_cons (pv 0) pa_nil)) pe_int))))) (pss_one (ps_ret (pe_lst (pa_cons pe_str (pa_cons (pe_callB (call_reprE hgu hu80) (by rfl) T.n_repr (by decide +kernel) (pa_cons (pv 0) pa_nil)) pa_nil))))) pss_nil)
    (pss_one (ps_ret (pe_lst (pa_cons pe_str pa_nil)))))))), ?_⟩
    have hz := sizeLine_eq
    have wm := wk.most
    have wl := wk.least
    have wwS : ∀ z ∈ ws, wordS z = true := fun z hz => word_B (wk.all z hz)
    refine cut_hide (fun τ G => τ = [some bv, some (.ref wa), some (.int size), some (.bl true), none] ∧ G = H) (fun M' hM => ?_) ?_
    · walk_at "wp"
      refine ⟨.tuple (ws.map PyData.str), .tup hwa (dpAll_strs _), ?_⟩
      rw [isTy_tupD]
      refine Eq.mpr (if_pos rfl) ⟨_, .inr hwa, ?_⟩
      rw [List.length_map, if_pos (show (1 : Int) ≤ (ws.length : Int) by omega), decide_eq_true (show (ws.length : Int) ≤ 2 by omega)]
      exact hM _ _ ⟨rfl, rfl⟩
    rintro τ G ⟨rfl, rfl⟩
    refine cut_hide (fun τ F => τ = [some bv, some (.ref wa), some (.int size), some (.bl true), none] ∧ Same G F) (fun M' hM => ?_) ?_
    · walk_at "wp"
      refine Eq.mpr (if_neg Bool.false_ne_true) ⟨⟨_, hwa⟩, ?_⟩
      refine lcw_it (walk_tup (xs := ws.map V.str)) (fun D i F => Same G F ∧ G D = none ∧ F D = some (.lst [])) (fun D hD => ⟨same_new hD, hD, upd_same⟩) (fun D i F _ h => Same.sqT h.1 hwa) ?_ ?_
      · rintro D i v F1 F2 hD hi ⟨s1, nD, hL⟩ ⟨rfl, hv⟩
        rw [List.getElem?_map] at hv
        obtain ⟨z, hz1, rfl⟩ := Option.map_eq_some_iff.1 hv
        have hzw := wk.all z (List.mem_of_getElem? hz1)
        walk_at "wp"
        refine ⟨.str z, .str z, rfl, .str z, (word_sml hzw).s, fun F3 s3 => ⟨_, rfl, ?_⟩⟩
        have ew : wordB (.str z) = true := word_B hzw
        rw [ew]
        exact ⟨s1.trans s3, nD, s3 _ _ hL⟩
      · rintro D F1 hD ⟨s1, nD, hL⟩
        refine ⟨Nat.zero_le _, fun q nq => ⟨.list [], .list [], .lst (SqL.of ((upd_ne (ne_of_none hL nq)).trans hL)) .nil, .lst (SqL.of upd_same) .nil, rfl, rfl, _, rfl, ?_⟩⟩
        refine Eq.mpr (if_neg (by decide)) ?_
        have s2' := s1.trans (same_new (o := .lst []) nq)
        refine ⟨ws, Same.sqT s2' hwa, by omega, _, .inr (Same.sqT s2' hwa), rfl, ?_⟩
        have em := metS_nd wl wm wk.nd
        rw [List.length_map, em]
        exact Eq.mpr (if_pos rfl) (hM _ _ ⟨rfl, s2'⟩)
    rintro τ F ⟨rfl, sF⟩
    refine cut_hide (fun τ F2 => τ = [some bv, some (.ref wa), some (.int size), some (.bl true), none] ∧ Same G F2) (fun M' hM => ?_) ?_
    · walk_at "wp"
      refine ⟨.int size, .int size, ?_⟩
      rw [isTy_bool]
      refine Eq.mpr (if_neg Bool.false_ne_true) ⟨by decide, fun q nq => ⟨_, .inl (SqL.of upd_same), rfl, rfl, ?_⟩⟩
      have ei : inV (V.int size) [V.int 2, V.int 3] = true := by
        have : size = 2 ∨ size = 3 := by omega
        rcases this with rfl | rfl <;> rfl
      rw [ei]
      exact Eq.mpr (if_neg Bool.false_ne_true) (hM _ _ ⟨rfl, sF.trans (same_new nq)⟩)
    rintro τ F2 ⟨rfl, sF2⟩
    refine cut_hide (fun τ F3 => τ = [some bv, some (.ref wa), some (.int size), some (.bl true), none] ∧ Same G F3 ∧ okB ws size bd = true) (fun M' hM => ?_) ?_
    · walk_at "wp"
      have bad : okB ws size bd = false → ∀ {F : Hp}, Same G F → ∃ x, DpE K F bv x ∧ Rp x ∧ 2 ≤ sizeLine ∧ ∀ p, F p = none → Q (.ref p) (upd F p (.lst [V.str (Str.ofString "block"), V.str x.shown])) := fun e {F} s => ⟨bd, .inl (dp_same s _ _ hb), hbr, by decide, fun q nq => kq q _ (s.trans (same_new nq)) (none_back s nq) (by
        rw [upd_same]
        unfold dueL
        rw [if_pos e]
        rfl)⟩
      refine ⟨bv, bd, wa, ws, size, 0, false, rfl, rfl, dp_same sF2 _ _ hb, hbs, hbd, Same.sqT sF2 hwa, wwS, fun F3 s3 => ⟨_, rfl, ?_⟩⟩
      cases hg : lgB ws size 3 false bd with
      | false => exact bad (by rw [ok_law, hg, Bool.false_and]) (sF2.trans s3)
      | true =>
        refine Eq.mpr (if_neg Bool.false_ne_true) ⟨bv, bd, ws, size, false, rfl, dp_same (sF2.trans s3) _ _ hb, hg, fun F4 s4 => ⟨_, rfl, ?_⟩⟩
        have sA := (sF2.trans s3).trans s4
        have ol := ok_law (rs := ws) (size := size) bd
        rw [hg, Bool.true_and] at ol
        generalize szB 3 bd = m at ol ⊢
        refine ite2 (fun c1 => ⟨_, rfl, ite2 (fun c2 => hM _ _ ⟨rfl, sA, ?_⟩) fun c2 => bad ?_ sA⟩) fun c1 => Eq.mpr (if_pos rfl) (bad ?_ sA)
        · rw [ol, decide_eq_true (by omega), decide_eq_true (by omega)]
          rfl
        · rw [ol, decide_eq_false (show ¬ m ≤ 24 by omega), Bool.and_false]
        · rw [ol, decide_eq_false (show ¬ 1 ≤ m by omega), Bool.false_and]
    rintro τ F3 ⟨rfl, sF3, ok⟩
    walk_at "wp"
    refine ⟨by decide, fun q nq => kq q _ (sF3.trans (same_new nq)) (none_back sF3 nq) ?_⟩
    rw [upd_same]
    unfold dueL
    rw [if_neg (by rw [ok]; exact Bool.noConfusion)]
    rfl
end

end YY

set_option maxRecDepth 100000
set_option maxHeartbeats 4000000
/-! an empty tuple times a number, and either of two rules for one operator -/
namespace XX
open PySem PySem.Spec PyProof.Rows L2
end XX

set_option maxRecDepth 100000
set_option maxHeartbeats 4000000
/-! a tuple times 0 or 1 -/
namespace XX
open PySem PySem.Spec PyProof.Rows L2
theorem tuple_mul1 (l : Addr) (items : Array Value) (n : Nat) (dd : Option Addr) (sl : Array (Option Value)) (u : Tok) :
    Meets (Builtin.«tuple.__mul__» ⟨[.ref l, .int 1 u], []⟩) (fun _ R s => s.heap.get? l = some { cls := .type "tuple", dict := dd, data := .seq items n, slots := sl } ∧ R (.ok (.ret (Value.ref l))) s) :=
  .of_wp fun prog w A R s h => by
    obtain ⟨hp, g, d, tk, os⟩ := s
    obtain ⟨hl, h⟩ := h
    have f1 := AutoSeq1.idx_int
    wp_walk using wpAny_loadPart' hl
    repeat (first
      | (refine wpAny_ite_false (decide_eq_false (by decide)) ?_; wp_walk using wpAny_loadPart' hl)
      | (refine wpAny_ite_true (decide_eq_true (by rw [Bool.or_eq_true]; exact .inr rfl)) ?_; wp_walk using wpAny_loadPart' hl))
    first
      | exact ⟨_, rfl, h⟩
      | trace_state
theorem tuple_mulz (l : Addr) (items : Array Value) (n : Nat) (dd : Option Addr) (sl : Array (Option Value)) (u : Tok) (hi : items.isEmpty = false) :
    Meets (Builtin.«tuple.__mul__» ⟨[.ref l, .int 0 u], []⟩) (fun _ R s => s.heap.get? l = some { cls := .type "tuple", dict := dd, data := .seq items n, slots := sl } ∧
      R (.ok (.ret (Value.ref s.heap.objs.size))) { s with heap := s.heap.push { cls := Value.type "tuple", data := Data.seq #[] }, toks := s.toks }) :=
  .of_wp fun prog w A R s h => by
    obtain ⟨hp, g, d, tk, os⟩ := s
    obtain ⟨hl, h⟩ := h
    have f1 := AutoSeq1.idx_int
    wp_walk using wpAny_loadPart' hl
    repeat (first
      | (refine wpAny_ite_false (decide_eq_false (by rw [hi]; decide)) ?_; wp_walk using wpAny_loadPart' hl)
      | (refine wpAny_ite_false (decide_eq_false (by decide)) ?_; wp_walk using wpAny_loadPart' hl)
      | (refine wpAny_ite_true (decide_eq_true (by rfl)) ?_; wp_walk using wpAny_loadPart' hl))
    first
      | exact ⟨_, rfl, h⟩
      | exact h
      | trace_state
def rRep01 (K : PySem.W.Frag) : R2 := fun x y H Q => ∃ l k xs, x = .ref l ∧ y = .int k ∧ SqT K H l xs ∧ xs ≠ [] ∧ ((k = 1 ∧ Q (.ref l) H) ∨ (k = 0 ∧ ∀ p, H p = none → Q (.ref p) (upd H p (.tup []))))
theorem op_rep01 {X : Cx} : OpR X (binaryOp .Mult) (rRep01 X.K) := by
  intro pins s σ H x y v u Q I rx ry h
  obtain ⟨l, k, xs, rfl, rfl, hT, hne, q⟩ := h
  cases rx
  obtain ⟨t, rfl⟩ := ry
  obtain ⟨its, r, ⟨⟨cls, dd, data, sl⟩, ho, hc, n, hd⟩, hs⟩ := I.tuple hT
  simp only at hc hd
  subst hc hd
  have hle : its.length = xs.length := r.length.symm
  have hn : its ≠ [] := fun e => hne (by
    rw [e] at hle
    exact List.eq_nil_of_length_eq_zero hle.symm)
  have hi : its.toArray.isEmpty = false := by
    cases its with
    | nil => exact absurd rfl hn
    | cons a b => rfl
  rcases q with ⟨rfl, q⟩ | ⟨rfl, q⟩
  · exact wpAny_binaryOp_repeat_ref (T := "tuple") (U := "int") (by decide) ⟨_, ho, rfl⟩ (fun s' => typeIs_int s' 1 t) noFill_tuple_mul F.fills_int_mul F.slot_int_rmul repeat_tuple F.slot_int_index.lookup
      (call_meets F.slot_int_rmul (typeIs_int s 1 t) F.entry_int_rmul (F.args_int_rmul_2 _ _) (int_rmul_tuple 1 t l its.toArray n dd sl)
        ⟨ho, rfl, ⟨_, ho, rfl⟩, call_meets F.slot_tuple_mul ⟨_, ho, rfl⟩ F.entry_tuple_mul (F.args_tuple_mul_2 _ _) (tuple_mul1 l its.toArray n dd sl t) ⟨ho, ⟨.ref l, H, I, rfl, q⟩⟩⟩)
  · refine wpAny_binaryOp_repeat_ref (T := "tuple") (U := "int") (by decide) ⟨_, ho, rfl⟩ (fun s' => typeIs_int s' 0 t) noFill_tuple_mul F.fills_int_mul F.slot_int_rmul repeat_tuple F.slot_int_index.lookup
      (call_meets F.slot_int_rmul (typeIs_int s 0 t) F.entry_int_rmul (F.args_int_rmul_2 _ _) (int_rmul_tuple 0 t l its.toArray n dd sl)
        ⟨ho, rfl, ⟨_, ho, rfl⟩, call_meets F.slot_tuple_mul ⟨_, ho, rfl⟩ F.entry_tuple_mul (F.args_tuple_mul_2 _ _) (tuple_mulz l its.toArray n dd sl t hi) ⟨ho, ?_⟩⟩)
    refine ⟨.ref s.heap.objs.size, _, I.laid (t' := s.toks) (o := .tup []) (fun b ob q => Heap.get?_push_of_some _ q) (Nat.le_refl _) ?_, rfl, q _ (I.hok.fresh (Nat.le_refl _))⟩
    exact ⟨Nat.zero_le _, [], .nil, IsTup.new _ _⟩
end XX

set_option maxRecDepth 100000
set_option maxHeartbeats 4000000
namespace YY
open PySem PySem.Spec PyProof.Rows L2 XX
local macro_rules | `(tactic| walk_at "wp") => `(tactic| simp only [Int.zero_add, L2.start, LcEnd, List.append_nil, List.cons.injEq, List.cons_append, List.getElem?_cons_succ, List.getElem?_cons_zero, List.length_cons, List.length_nil, List.map_cons, List.map_nil, List.nil_append, List.replicate, List.replicate_succ, List.replicate_zero, List.set_cons_succ, List.set_cons_zero, Nat.reduceAdd, Nat.reduceSub, Option.some.injEq, StX.tMakeR, StX.tStar, V.bl.injEq, V.int.injEq, V.ref.injEq, V.str.injEq, V.ty.injEq, WE, and_assoc, and_false, and_true, bool_ite_false, bool_ite_true, cxOf_K, cxOf_noxK, dec_ite, decide_eq_true_eq, exists_and_left, exists_and_right, exists_const, exists_eq_left, exists_eq_left', false_and, false_or, gCons, gName, gNil, gSub, gTup, iEnumA, iItems, iKeys, iList, iRng1, iRng2, iStr, iTup, iZipB, ite_false, ite_true, ndec_ite, or_false, rAppend, rCat, rCatT, rEq, rEqI, rEqK, rEqV, rExt2, rI, rI0, rIn, rInRg, rIndex, rIsD, rIsE, rIsE2, rIxD, rIxL, rIxS, rIxT, rLenI, rLenK, rListStr, rMax, rMaxDef, rSetIM, rEqT, sFldAug, rAdd, rMin, rMulS, rNe, rNeDA, rNeV, rRange1, rRep, rRepA, rReprE, rReprI, rSetD, rSetI, rSetL, rSlL, rSlT, rSortedSet, rU, reduceCtorEq, reduceIte, sFld, tAnd, tAndV, tAsg, tAug, tB, tBM, tBM0, tC, tCB, tCKw, tDGetT, tCall, tCallS, tChain, tCons, tDGet, tDIn, tDNewK, tDNotIn, tDcT_eq, tDc_eq, tDisp, tDrop, tErr, tFld, tFor_eq, tIf, tIfS, tIxI, tLc2_eq, tLc_eq, tLenSetS, tLock, tLockE, tLst, tLstRg, tM1, tMakeRS, tMakeS, tMakeV, tMakeVS, tMeth, tMethX, tMkO, tMulA, tMulD, tNext, tNil, tNoPart, tNot, tNotV, tOp, tOpI, tOpR, tOr, tOrV, tOst, tPairs, tPar, tPar3, tPart, tRet, tRetN, tRevT, tRg2, tSMeth, tSeq, tSl, tTest, tTup, tUn, tVar, tVeI, tXf, tYes, true_and, wAs, wMA, wipe, rSum, rRep01, rRepT])
/-! ### _law_bent -/
abbrev sLBent : Stmt := topS 54
structure Ls (k n m : Nat) (ds : List PyData) : Prop where
  l : ds.length ≤ m
  s : ∀ e ∈ ds, sm e = true
  dp : ∀ e ∈ ds, e.depth ≤ k
  wt : PyData.weightAll ds ≤ n
theorem wtAll_app : ∀ a b : List PyData, PyData.weightAll (a ++ b) = PyData.weightAll a + PyData.weightAll b
  | [], b => by
    show PyData.weightAll b = 0 + PyData.weightAll b
    rw [Nat.zero_add]
  | x :: a, b => by
    rw [List.cons_append, wtAll_cons, wtAll_cons, wtAll_app a b]
    omega
theorem Ls.nil {k : Nat} : Ls k 0 0 [] := ⟨Nat.le_refl _, fun _ h => (nomatch h), fun _ h => (nomatch h), Nat.le_refl _⟩
theorem Ls.one {k n : Nat} {e : PyData} (h : Sml k n e) : Ls k (n + 1) 1 [e] := ⟨Nat.le_refl _, fun x hx => by rw [List.mem_singleton.1 hx]; exact h.s, fun x hx => by rw [List.mem_singleton.1 hx]; exact h.dp, by
  rw [wtAll_cons]
  have := h.wt
  have e0 : PyData.weightAll [] = 0 := rfl
  omega⟩
theorem Ls.app {k n m n' m' : Nat} {a b : List PyData} (h : Ls k n m a) (g : Ls k n' m' b) : Ls k (n + n') (m + m') (a ++ b) := ⟨by rw [List.length_append]; have := h.l; have := g.l; omega, fun x hx => (List.mem_append.1 hx).elim (h.s x) (g.s x), fun x hx => (List.mem_append.1 hx).elim (h.dp x) (g.dp x), by rw [wtAll_app]; have := h.wt; have := g.wt; omega⟩
theorem Ls.mono {k n m k' n' m' : Nat} {a : List PyData} (h : Ls k n m a) (hk : k ≤ k') (hn : n ≤ n') (hm : m ≤ m') : Ls k' n' m' a := ⟨Nat.le_trans h.l hm, h.s, fun x hx => Nat.le_trans (h.dp x hx) hk, Nat.le_trans h.wt hn⟩
theorem Ls.sub {k n m : Nat} {a b : List PyData} (h : Ls k n m (a ++ b)) : Ls k n m a ∧ Ls k n m b := by
  have hl := h.l
  have hw := h.wt
  rw [List.length_append] at hl
  rw [wtAll_app] at hw
  exact ⟨⟨by omega, fun x hx => h.s x (List.mem_append_left _ hx), fun x hx => h.dp x (List.mem_append_left _ hx), by omega⟩, ⟨by omega, fun x hx => h.s x (List.mem_append_right _ hx), fun x hx => h.dp x (List.mem_append_right _ hx), by omega⟩⟩
theorem Ls.take {k n m : Nat} {a : List PyData} (i : Nat) (h : Ls k n m a) : Ls k n m (a.take i) := by
  rw [← List.take_append_drop i a] at h
  exact h.sub.1
theorem Ls.drop {k n m : Nat} {a : List PyData} (i : Nat) (h : Ls k n m a) : Ls k n m (a.drop i) := by
  rw [← List.take_append_drop i a] at h
  exact h.sub.2
theorem Ls.tup {k n m : Nat} {a : List PyData} (h : Ls k n m a) (hm : m ≤ 1000) : Sml (k + 1) n (.tuple a) := ⟨tup_sm (Nat.le_trans h.l hm) h.s, tup_depth h.dp, by rw [wt_tup]; exact h.wt⟩
theorem Ls.lst {k n m : Nat} {a : List PyData} (h : Ls k n m a) (hm : m ≤ 1000) : Sml (k + 1) n (.list a) := by
  have t := h.tup hm
  exact ⟨t.s, t.dp, t.wt⟩
theorem Ls.of {k n : Nat} {a : List PyData} (h : Sml (k + 1) n (.tuple a)) : Ls k n 1000 a := by
  obtain ⟨h1, h2⟩ := sm_tup h.s
  refine ⟨h1, fun e he => sms_mem h2 he, fun e he => depth_in he h.dp, ?_⟩
  have := h.wt
  rw [wt_tup] at this
  exact this
theorem Ls.rep {k n m : Nat} {a : List PyData} (h : Ls k n m a) : ∀ j : Nat, Ls k (j * n) (j * m) (List.replicate j a).flatten
  | 0 => ⟨Nat.zero_le _, fun _ h => (nomatch h), fun _ h => (nomatch h), Nat.zero_le _⟩
  | j + 1 => by
    rw [List.replicate_succ, List.flatten_cons, Nat.add_mul, Nat.add_mul, Nat.one_mul, Nat.one_mul, Nat.add_comm (j * n), Nat.add_comm (j * m)]
    exact h.app (h.rep j)
theorem dps_rep {K : PySem.W.Frag} {H : Hp} {xs : List V} {ds : List PyData} (h : DpAll K H xs ds) : ∀ j : Nat, DpAll K H (List.replicate j xs).flatten (List.replicate j ds).flatten
  | 0 => .nil
  | j + 1 => by
    rw [List.replicate_succ, List.replicate_succ, List.flatten_cons, List.flatten_cons]
    exact dps_app h (dps_rep h j)
theorem ok_len {rs : List Str} {size : Int} {d : PyData} (h : okB rs size d = true) : ∃ ds, d = .tuple ds ∧ 1 ≤ ds.length ∧ ds.length ≤ 24 := by
  unfold okB at h
  cases hc : cntB rs size 3 false d with
  | none =>
    rw [hc] at h
    cases h
  | some n =>
    rw [hc] at h
    have hn : 0 < n := of_decide_eq_true h
    obtain ⟨ds, ns, rfl, hp, rfl, hle⟩ := bl_inv hc
    refine ⟨ds, rfl, ?_, ?_⟩
    · cases hp with
      | nil => exact absurd hn (by decide)
      | cons _ _ => simp
    · have key : ∀ {ds : List PyData} {ns : List Nat}, Paired (fun d r => StC rs size 3 false d r) ds ns → ds.length ≤ ns.sum := by
        intro ds ns hp
        induction hp with
        | nil => exact Nat.le_refl _
        | cons h _ ih =>
          have := st_pos h
          rw [List.length_cons, List.sum_cons]
          omega
      exact Nat.le_trans (key hp) hle
/-- a new tuple of data, the pool left out -/
theorem mk_sd {K : PySem.W.Frag} {H : Hp} {p q : Addr} {vs : List V} {ds : List PyData} (P : Pool H p) (nq : H q = none) (h : DpAll K (del H p) vs ds) : Dp K (del (upd H q (.tup vs)) p) (.ref q) (.tuple ds) := .tup (SqT.of (del_new P nq)) (dps_same (del_mono (same_new nq)) _ _ h)
theorem mk_ld {K : PySem.W.Frag} {H : Hp} {p q : Addr} {vs : List V} {ds : List PyData} (P : Pool H p) (nq : H q = none) (h : DpAll K (del H p) vs ds) : Dp K (del (upd H q (.lst vs)) p) (.ref q) (.list ds) := .lst (SqL.of (del_new P nq)) (dps_same (del_mono (same_new nq)) _ _ h)
/-- the odd statements -/
def oddA (z : Str) : List PyData := [.tuple [.str "leave", .str z, .int 0], .tuple [.str "go", .int 0], .tuple [.str "end"], .tuple [.str "group", .str "g", .none], .tuple [.str "take", .str "none"], .none, .list [.str "take", .str z]]
def oddB (z : Str) : List PyData := [.tuple [.str "set", .str z, .int 3], .tuple [.str "set", .str z, .bool true], .tuple [.str "if", .str z, .int 0, .tuple []], .tuple [.str "while", .str z, .int 0, .list [], .tuple []], .tuple [], .str "take"]
theorem ls_of {k n : Nat} : ∀ {ds : List PyData}, (∀ e ∈ ds, Sml k n e) → Ls k (ds.length * (n + 1)) ds.length ds := fun h => ⟨Nat.le_refl _, fun e he => (h e he).s, fun e he => (h e he).dp, wt_all fun e he => (h e he).wt⟩
theorem odd_sml {z : Str} (hz : wordS z = true) : ∀ e ∈ oddA z ++ oddB z, Sml 3 2000 e := by
  have L : ∀ y : Str, wordS y = true → Sml 2 200 (.str y) := fun y h => (lit_wz h).mono (by decide) (by decide)
  have I : ∀ i : Int, -10 ≤ i → i ≤ 1000 → Sml 2 200 (.int i) := fun i a b => (sml_i a b).mono (by decide) (by decide)
  have N : Sml 2 200 .none := sml_non.mono (by decide) (by decide)
  have B : ∀ b, Sml 2 200 (.bool b) := fun b => sml_bl.mono (by decide) (by decide)
  have E : Sml 2 200 (.tuple []) := (Ls.nil.tup (k := 0) (by decide)).mono (by decide) (by decide)
  have E2 : Sml 2 200 (.list []) := (Ls.nil.lst (k := 0) (by decide)).mono (by decide) (by decide)
  have T : ∀ {ds : List PyData}, ds.length ≤ 5 → (∀ e ∈ ds, Sml 2 200 e) → Sml 3 2000 (.tuple ds) := fun hl h => ((ls_of h).tup (by omega)).mono (Nat.le_refl _) (Nat.le_trans (Nat.mul_le_mul_right _ hl) (by decide))
  have T2 : ∀ {ds : List PyData}, ds.length ≤ 5 → (∀ e ∈ ds, Sml 2 200 e) → Sml 3 2000 (.list ds) := fun hl h => ((ls_of h).lst (by omega)).mono (Nat.le_refl _) (Nat.le_trans (Nat.mul_le_mul_right _ hl) (by decide))
  intro e he
  simp only [oddA, oddB, List.cons_append, List.nil_append, List.mem_cons, List.not_mem_nil, or_false] at he
  rcases he with rfl | rfl | rfl | rfl | rfl | rfl | rfl | rfl | rfl | rfl | rfl | rfl | rfl
  · exact T (by simp) (by simp only [List.mem_cons, List.not_mem_nil, or_false]; rintro e (rfl | rfl | rfl) <;> first | exact L _ (by decide +kernel) | exact L _ hz | exact I _ (by decide) (by decide) | exact N | exact B _ | exact E | exact E2)
  · exact T (by simp) (by simp only [List.mem_cons, List.not_mem_nil, or_false]; rintro e (rfl | rfl) <;> first | exact L _ (by decide +kernel) | exact L _ hz | exact I _ (by decide) (by decide) | exact N | exact B _ | exact E | exact E2)
  · exact T (by simp) (by simp only [List.mem_cons, List.not_mem_nil, or_false]; rintro e rfl <;> first | exact L _ (by decide +kernel) | exact L _ hz | exact I _ (by decide) (by decide) | exact N | exact B _ | exact E | exact E2)
  · exact T (by simp) (by simp only [List.mem_cons, List.not_mem_nil, or_false]; rintro e (rfl | rfl | rfl) <;> first | exact L _ (by decide +kernel) | exact L _ hz | exact I _ (by decide) (by decide) | exact N | exact B _ | exact E | exact E2)
  · exact T (by simp) (by simp only [List.mem_cons, List.not_mem_nil, or_false]; rintro e (rfl | rfl) <;> first | exact L _ (by decide +kernel) | exact L _ hz | exact I _ (by decide) (by decide) | exact N | exact B _ | exact E | exact E2)
  · exact N.mono (by decide) (by decide)
  · exact T2 (by simp) (by simp only [List.mem_cons, List.not_mem_nil, or_false]; rintro e (rfl | rfl) <;> first | exact L _ (by decide +kernel) | exact L _ hz | exact I _ (by decide) (by decide) | exact N | exact B _ | exact E | exact E2)
  · exact T (by simp) (by simp only [List.mem_cons, List.not_mem_nil, or_false]; rintro e (rfl | rfl | rfl) <;> first | exact L _ (by decide +kernel) | exact L _ hz | exact I _ (by decide) (by decide) | exact N | exact B _ | exact E | exact E2)
  · exact T (by simp) (by simp only [List.mem_cons, List.not_mem_nil, or_false]; rintro e (rfl | rfl | rfl) <;> first | exact L _ (by decide +kernel) | exact L _ hz | exact I _ (by decide) (by decide) | exact N | exact B _ | exact E | exact E2)
  · exact T (by simp) (by simp only [List.mem_cons, List.not_mem_nil, or_false]; rintro e (rfl | rfl | rfl | rfl) <;> first | exact L _ (by decide +kernel) | exact L _ hz | exact I _ (by decide) (by decide) | exact N | exact B _ | exact E | exact E2)
  · exact T (by simp) (by simp only [List.mem_cons, List.not_mem_nil, or_false]; rintro e (rfl | rfl | rfl | rfl | rfl) <;> first | exact L _ (by decide +kernel) | exact L _ hz | exact I _ (by decide) (by decide) | exact N | exact B _ | exact E | exact E2)
  · exact E.mono (by decide) (by decide)
  · exact (L _ (by decide +kernel)).mono (by decide) (by decide)
section
variable {P : Program} {w : World} {K : PySem.W.Frag} {mg : Str → Option Value} {base : Heap}
def spLBent (K : PySem.W.Frag) : Sp := fun vs H Q _ => ∃ (p d : Addr) (g : SPl), vs = [.ref p, .ref d] ∧ Pool H p ∧ SPlAt K H d g ∧ g.Ok ∧ ∀ v e G, Gr p H G → Dp K (del G p) v e → Sml 30 (2 ^ 20) e → Q v G
theorem scLBent : FnScope ["pool", "plan", "block", "word", "at", "way", "odd", "inner"] ["pool", "plan"] (defScope sLBent) := ⟨rfl, rfl, rfl, by decide +kernel, rfl, by decide +kernel, by decide +kernel⟩
theorem c_lBent (D : Def K mg "_law_bent" sLBent ["pool", "plan"]) (T : Bl2 mg) (cD : FnC P w K mg base CX0 1 "_law_draw" ["pool", "many"] spDraw) (cK : FnC P w K mg base CX0 2 "_law_pick" ["pool", "some"] (spPick K)) : FnC P w K mg base CX0 3 "_law_bent" ["pool", "plan"] (spLBent K) := by
  refine D.ok scLBent (fun vs H Q E h => ?_) (fun f cdv A outer s H vs Q E hr2 h => ?_)
  · obtain ⟨p, d, g, rfl, _⟩ := h
    rfl
  · obtain ⟨p, d, g, rfl, hP, ⟨bv, wa, hd, hb, hw⟩, ok, kq⟩ := h
    have sc := scLBent
    have hr := hr2
    have hu := hu_of hr
    have hr1 : Room 1 _ := hr2.mono (by decide)
    have hz := sizeLine_eq
    refine ⟨_, (pss_cut (ps_par (i := 2) (j := 3) (by rfl) sc.nd rfl rfl (by decide) rfl rfl (pa_cons (pe_dget hu (pv 1) pe_str (fun _ _ => rfl)) (pa_cons (pe_ix ix_tup (pe_dget hu (pv 1) pe_str (fun _ _ => rfl)) pe_int (fun _ _ => rfl)) pa_nil)) (by rfl))
    (pss_cut (ps_par (i := 4) (j := 5) (by rfl) sc.nd rfl rfl (by decide) rfl rfl (pa_cons (pe_c cD hr1 rfl (pa_cons (pv 0) (pa_cons (pe_op op_add (pe_callB call_len_seq (by rfl) T.n_len (by decide +kernel) (pa_cons (pv 2) pa_nil)) pe_int) pa_nil))) (pa_cons (pe_c cD hr1 rfl (pa_cons (pv 0) (pa_cons pe_int pa_nil))) pa_nil)) (by rfl))
    (pss_cut (ps_set (i := 6) sc.nd rfl (Or.inl rfl) (pe_lst (pa_cons (pe_tup (pa_cons pe_str (pa_cons (pv 3) (pa_cons pe_int pa_nil)))) (pa_cons (pe_tup (pa_cons pe_str (pa_cons pe_int pa_nil))) (pa_cons (pe_tup (pa_cons pe_str pa_nil)) (pa_cons (pe_tup (pa_cons pe_str (pa_cons pe_str (pa_cons pe_non pa_nil)))) (pa_cons (pe_tup (pa_cons pe_str (pa_cons pe_str pa_nil))) (pa_cons pe_non (pa_cons (pe_lst (pa_cons pe_str (pa_cons (pv 3) pa_nil))) pa_nil)))))))))
    (pss_cut (ps_set (i := 6) sc.nd rfl (Or.inl rfl) (pe_op op_cat (pv 6) (pe_lst (pa_cons (pe_tup (pa_cons pe_str (pa_cons (pv 3) (pa_cons pe_int pa_nil)))) (pa_cons (pe_tup (pa_cons pe_str (pa_cons (pv 3) (pa_cons pe_bl pa_nil)))) (pa_cons (pe_tup (pa_cons pe_str (pa_cons (pv 3) (pa_cons pe_int (pa_cons (pe_tup pa_nil) pa_nil))))) (pa_cons (pe_tup (pa_cons pe_str (pa_cons (pv 3) (pa_cons pe_int (pa_cons (pe_lst pa_nil) (pa_cons (pe_tup pa_nil) pa_nil)))))) (pa_cons (pe_tup pa_nil) (pa_cons pe_str pa_nil)))))))))
    (pss_cut (ps_if (pt_cmpR op_lt (pv 5) pe_int (nomark _)) (pss_one (ps_ret (pe_op op_catA (pe_op op_catA (pe_slice sl_tupA (pv 2) po_none (po_some (pv 4))) (pe_tup (pa_cons (pe_c cK hr2 rfl (pa_cons (pv 0) (pa_cons (pv 6) pa_nil))) pa_nil))) (pe_slice sl_tupA (pv 2) (po_some (pv 4)) po_none)))) pss_nil)
    (pss_cut (ps_set (i := 7) sc.nd rfl (Or.inl rfl) (pe_tup (pa_cons pe_str (pa_cons (pv 3) (pa_cons pe_int (pa_cons (pe_op op_catA (pe_op op_rep01 (pe_tup (pa_cons (pe_tup (pa_cons pe_str (pa_cons (pv 3) (pa_cons pe_int pa_nil)))) pa_nil)) (pe_c cD hr1 rfl (pa_cons (pv 0) (pa_cons pe_int pa_nil)))) (pe_slice sl_tupA (pv 2) po_none (po_some pe_int))) pa_nil))))))
    (pss_cut (ps_if (pt_cmpR op_eq (pv 5) pe_int (nomark _)) (pss_one (ps_ret (pe_op op_catA (pe_op op_catA (pe_slice sl_tupA (pv 2) po_none (po_some (pv 4))) (pe_tup (pa_cons (pv 7) pa_nil))) (pe_slice sl_tupA (pv 2) (po_some (pv 4)) po_none)))) pss_nil)
    (pss_cut (ps_if (pt_cmpR op_eq (pv 5) pe_int (nomark _)) (pss_one (ps_ret (pe_tup (pa_cons (pe_tup (pa_cons pe_str (pa_cons (pv 3) (pa_cons pe_int (pa_cons (pe_tup (pa_cons (pv 7) pa_nil)) (pa_cons (pe_tup (pa_cons (pe_tup (pa_cons pe_str (pa_cons (pv 3) (pa_cons pe_int (pa_cons (pe_tup (pa_cons (pv 7) pa_nil)) pa_nil))))) pa_nil)) pa_nil)))))) pa_nil)))) pss_nil)
    (pss_one (ps_ret (pe_ifExp (pt_cmpR op_eq (pv 5) pe_int (nomark _)) (pe_op op_repT (pv 2) pe_int) (pe_callTy call_list_of (by rfl) T.n_list (by decide +kernel) (pa_cons (pv 2) pa_nil))))))))))))), ?_⟩
    obtain ⟨ds, eb, hl1, hl24⟩ := ok_len ok.ok
    have hwS : ∀ z ∈ g.ws, wordS z = true := fun z hz => word_B (ok.wk.all z hz)
    have sml0 : Sml 9 51000 (.tuple ds) := eb ▸ ok_wz hwS ok.s3 ok.ok
    have ls0 : Ls 8 51000 24 ds := by
      have := Ls.of (k := 8) sml0
      exact ⟨hl24, this.s, this.dp, this.wt⟩
    have nl0 : noLs ds = true := by
      have := ok.nl
      rw [eb] at this
      exact this
    rw [eb] at hb
    obtain ⟨ba, xs, rfl, hs, hps⟩ := dp_tup hb
    have lx := dpAll_len hps
    obtain ⟨w0, wr, ew⟩ : ∃ w0 wr, g.ws = w0 :: wr := by
      cases hws : g.ws with
      | nil => exact absurd ok.wk.least (by rw [hws]; simp)
      | cons a b => exact ⟨a, b, rfl⟩
    have hw0 : wordS w0 = true := hwS w0 (by rw [ew]; exact List.mem_cons_self)
    have hps0 : DpAll K (del H p) xs ds := dps_noL (fun _ _ e => del_tup hP e) ds xs nl0 hps
    refine cut_hide (fun τ G => τ = [some (.ref p), some (.ref d), some (.ref ba), some (.str w0), none, none, none, none] ∧ G = H) (fun M' hM => ?_) ?_
    · walk_at "wp"
      refine ⟨_, .inl ⟨plKV (.ref ba) wa g.size, .inr "block", .inl hd, rfl, rfl⟩, _, .inl ⟨plKV (.ref ba) wa g.size, .inr "words", .inl hd, rfl, rfl⟩, ?_⟩
      exact ⟨wa, rfl, _, hw, .str w0, by rw [ew]; exact at_of (j := 0) rfl rfl, hM _ _ ⟨rfl, rfl⟩⟩
    rintro τ G ⟨rfl, rfl⟩
    refine cut_hide (fun τ F => ∃ (a : Nat) (y : Int), τ = [some (.ref p), some (.ref d), some (.ref ba), some (.str w0), some (.int (a : Nat)), some (.int y), none, none] ∧ Gr p G F ∧ a ≤ xs.length ∧ 0 ≤ y ∧ y < 8) (fun M' hM => ?_) ?_
    · walk_at "wp"
      refine ⟨_, .inr hs, p, (xs.length : Int) + 1, rfl, hP, by omega, fun a F a0 a1 g1 => ⟨p, 8, rfl, g1.pool, by decide, fun y F2 y0 y1 g2 => ?_⟩⟩
      obtain ⟨a, rfl⟩ : ∃ n : Nat, a = n := ⟨a.toNat, by omega⟩
      exact hM _ _ ⟨a, y, rfl, g1.trans g2, by omega, y0, y1⟩
    rintro τ G1 ⟨a, y, rfl, g1, ha, y0, y1⟩
    have hs1 := g1.tup hP hs
    have hx1 := dps_same (del_gr g1) _ _ hps0
    have P1 := g1.pool
    refine cut_hide (fun τ F => ∃ oa vs, τ = [some (.ref p), some (.ref d), some (.ref ba), some (.str w0), some (.int (a : Nat)), some (.int y), some (.ref oa), none] ∧ Same G1 F ∧ F oa = some (.lst vs) ∧ DpAll K (del F p) vs (oddA w0)) (fun M' hM => ?_) ?_
    · walk_at "wp"
      refine ⟨by decide, fun p_a n_a => ?_⟩
      have s_a := same_new (o := .tup [V.str "leave", V.str w0, V.int 0]) n_a
      have P_a := (Gr.new (o := .tup [V.str "leave", V.str w0, V.int 0]) P1 n_a).pool
      have d_a := mk_sd (K := K) (vs := [V.str "leave", V.str w0, V.int 0]) (ds := [.str "leave", .str w0, .int 0]) P1 n_a (.cons (.str _) (.cons (.str _) (.cons (.int _) .nil)))
      generalize upd G1 p_a (.tup [V.str "leave", V.str w0, V.int 0]) = A_a at s_a P_a d_a ⊢
      refine ⟨by decide, fun p_b n_b => ?_⟩
      have s_b := same_new (o := .tup [V.str "go", V.int 0]) n_b
      have P_b := (Gr.new (o := .tup [V.str "go", V.int 0]) P_a n_b).pool
      have d_b := mk_sd (K := K) (vs := [V.str "go", V.int 0]) (ds := [.str "go", .int 0]) P_a n_b (.cons (.str _) (.cons (.int _) .nil))
      generalize upd A_a p_b (.tup [V.str "go", V.int 0]) = A_b at s_b P_b d_b ⊢
      refine ⟨by decide, fun p_c n_c => ?_⟩
      have s_c := same_new (o := .tup [V.str "end"]) n_c
      have P_c := (Gr.new (o := .tup [V.str "end"]) P_b n_c).pool
      have d_c := mk_sd (K := K) (vs := [V.str "end"]) (ds := [.str "end"]) P_b n_c (.cons (.str _) .nil)
      generalize upd A_b p_c (.tup [V.str "end"]) = A_c at s_c P_c d_c ⊢
      refine ⟨by decide, fun p_d n_d => ?_⟩
      have s_d := same_new (o := .tup [V.str "group", V.str "g", V.non]) n_d
      have P_d := (Gr.new (o := .tup [V.str "group", V.str "g", V.non]) P_c n_d).pool
      have d_d := mk_sd (K := K) (vs := [V.str "group", V.str "g", V.non]) (ds := [.str "group", .str "g", .none]) P_c n_d (.cons (.str _) (.cons (.str _) (.cons .non .nil)))
      generalize upd A_c p_d (.tup [V.str "group", V.str "g", V.non]) = A_d at s_d P_d d_d ⊢
      refine ⟨by decide, fun p_e n_e => ?_⟩
      have s_e := same_new (o := .tup [V.str "take", V.str "none"]) n_e
      have P_e := (Gr.new (o := .tup [V.str "take", V.str "none"]) P_d n_e).pool
      have d_e := mk_sd (K := K) (vs := [V.str "take", V.str "none"]) (ds := [.str "take", .str "none"]) P_d n_e (.cons (.str _) (.cons (.str _) .nil))
      generalize upd A_d p_e (.tup [V.str "take", V.str "none"]) = A_e at s_e P_e d_e ⊢
      refine ⟨by decide, fun p_f n_f => ?_⟩
      have s_f := same_new (o := .lst [V.str "take", V.str w0]) n_f
      have P_f := (Gr.new (o := .lst [V.str "take", V.str w0]) P_e n_f).pool
      have d_f := mk_ld (K := K) (vs := [V.str "take", V.str w0]) (ds := [.str "take", .str w0]) P_e n_f (.cons (.str _) (.cons (.str _) .nil))
      generalize upd A_e p_f (.lst [V.str "take", V.str w0]) = A_f at s_f P_f d_f ⊢
      refine ⟨by decide, fun p_L n_L => ?_⟩
      have s_L := same_new (o := .lst [V.ref p_a, V.ref p_b, V.ref p_c, V.ref p_d, V.ref p_e, V.non, V.ref p_f]) n_L
      exact hM _ _ ⟨p_L, _, rfl, ((((((s_a).trans s_b).trans s_c).trans s_d).trans s_e).trans s_f).trans s_L, upd_same, (.cons (dp_same (del_mono (p := p) s_L) _ _ (dp_same (del_mono (p := p) s_f) _ _ (dp_same (del_mono (p := p) s_e) _ _ (dp_same (del_mono (p := p) s_d) _ _ (dp_same (del_mono (p := p) s_c) _ _ (dp_same (del_mono (p := p) s_b) _ _ d_a)))))) (.cons (dp_same (del_mono (p := p) s_L) _ _ (dp_same (del_mono (p := p) s_f) _ _ (dp_same (del_mono (p := p) s_e) _ _ (dp_same (del_mono (p := p) s_d) _ _ (dp_same (del_mono (p := p) s_c) _ _ d_b))))) (.cons (dp_same (del_mono (p := p) s_L) _ _ (dp_same (del_mono (p := p) s_f) _ _ (dp_same (del_mono (p := p) s_e) _ _ (dp_same (del_mono (p := p) s_d) _ _ d_c)))) (.cons (dp_same (del_mono (p := p) s_L) _ _ (dp_same (del_mono (p := p) s_f) _ _ (dp_same (del_mono (p := p) s_e) _ _ d_d))) (.cons (dp_same (del_mono (p := p) s_L) _ _ (dp_same (del_mono (p := p) s_f) _ _ d_e)) (.cons .non (.cons (dp_same (del_mono (p := p) s_L) _ _ d_f) .nil)))))))⟩
    rintro τ G2 ⟨oa, va, rfl, s2, hoa, hva⟩
    have P2 := (Gr.ofSame P1 s2).pool
    refine cut_hide (fun τ F => ∃ oc vs, τ = [some (.ref p), some (.ref d), some (.ref ba), some (.str w0), some (.int (a : Nat)), some (.int y), some (.ref oc), none] ∧ Same G2 F ∧ F oc = some (.lst vs) ∧ oc ≠ p ∧ DpAll K (del F p) vs (oddA w0 ++ oddB w0)) (fun M' hM => ?_) ?_
    · walk_at "wp"
      refine ⟨by decide, fun p_a n_a => ?_⟩
      have s_a := same_new (o := .tup [V.str "set", V.str w0, V.int 3]) n_a
      have P_a := (Gr.new (o := .tup [V.str "set", V.str w0, V.int 3]) P2 n_a).pool
      have d_a := mk_sd (K := K) (vs := [V.str "set", V.str w0, V.int 3]) (ds := [.str "set", .str w0, .int 3]) P2 n_a (.cons (.str _) (.cons (.str _) (.cons (.int _) .nil)))
      generalize upd G2 p_a (.tup [V.str "set", V.str w0, V.int 3]) = A_a at s_a P_a d_a ⊢
      refine ⟨by decide, fun p_b n_b => ?_⟩
      have s_b := same_new (o := .tup [V.str "set", V.str w0, V.bl true]) n_b
      have P_b := (Gr.new (o := .tup [V.str "set", V.str w0, V.bl true]) P_a n_b).pool
      have d_b := mk_sd (K := K) (vs := [V.str "set", V.str w0, V.bl true]) (ds := [.str "set", .str w0, .bool true]) P_a n_b (.cons (.str _) (.cons (.str _) (.cons (.bl _) .nil)))
      generalize upd A_a p_b (.tup [V.str "set", V.str w0, V.bl true]) = A_b at s_b P_b d_b ⊢
      refine ⟨by decide, fun p_c n_c => ?_⟩
      have s_c := same_new (o := .tup []) n_c
      have P_c := (Gr.new (o := .tup []) P_b n_c).pool
      have d_c := mk_sd (K := K) (vs := []) (ds := []) P_b n_c .nil
      generalize upd A_b p_c (.tup []) = A_c at s_c P_c d_c ⊢
      refine ⟨by decide, fun p_d n_d => ?_⟩
      have s_d := same_new (o := .tup [V.str "if", V.str w0, V.int 0, V.ref p_c]) n_d
      have P_d := (Gr.new (o := .tup [V.str "if", V.str w0, V.int 0, V.ref p_c]) P_c n_d).pool
      have d_d := mk_sd (K := K) (vs := [V.str "if", V.str w0, V.int 0, V.ref p_c]) (ds := [.str "if", .str w0, .int 0, .tuple []]) P_c n_d (.cons (.str _) (.cons (.str _) (.cons (.int _) (.cons d_c .nil))))
      generalize upd A_c p_d (.tup [V.str "if", V.str w0, V.int 0, V.ref p_c]) = A_d at s_d P_d d_d ⊢
      refine ⟨by decide, fun p_e n_e => ?_⟩
      have s_e := same_new (o := .lst []) n_e
      have P_e := (Gr.new (o := .lst []) P_d n_e).pool
      have d_e := mk_ld (K := K) (vs := []) (ds := []) P_d n_e .nil
      generalize upd A_d p_e (.lst []) = A_e at s_e P_e d_e ⊢
      refine ⟨by decide, fun p_f n_f => ?_⟩
      have s_f := same_new (o := .tup []) n_f
      have P_f := (Gr.new (o := .tup []) P_e n_f).pool
      have d_f := mk_sd (K := K) (vs := []) (ds := []) P_e n_f .nil
      generalize upd A_e p_f (.tup []) = A_f at s_f P_f d_f ⊢
      refine ⟨by decide, fun p_g n_g => ?_⟩
      have s_g := same_new (o := .tup [V.str "while", V.str w0, V.int 0, V.ref p_e, V.ref p_f]) n_g
      have P_g := (Gr.new (o := .tup [V.str "while", V.str w0, V.int 0, V.ref p_e, V.ref p_f]) P_f n_g).pool
      have d_g := mk_sd (K := K) (vs := [V.str "while", V.str w0, V.int 0, V.ref p_e, V.ref p_f]) (ds := [.str "while", .str w0, .int 0, .list [], .tuple []]) P_f n_g (.cons (.str _) (.cons (.str _) (.cons (.int _) (.cons (dp_same (del_mono (p := p) s_f) _ _ d_e) (.cons d_f .nil)))))
      generalize upd A_f p_g (.tup [V.str "while", V.str w0, V.int 0, V.ref p_e, V.ref p_f]) = A_g at s_g P_g d_g ⊢
      refine ⟨by decide, fun p_h n_h => ?_⟩
      have s_h := same_new (o := .tup []) n_h
      have P_h := (Gr.new (o := .tup []) P_g n_h).pool
      have d_h := mk_sd (K := K) (vs := []) (ds := []) P_g n_h .nil
      generalize upd A_g p_h (.tup []) = A_h at s_h P_h d_h ⊢
      refine ⟨by decide, fun p_L n_L => ?_⟩
      have s_L := same_new (o := .lst [V.ref p_a, V.ref p_b, V.ref p_d, V.ref p_g, V.ref p_h, V.str "take"]) n_L
      have P_L := (Gr.new (o := .lst [V.ref p_a, V.ref p_b, V.ref p_d, V.ref p_g, V.ref p_h, V.str "take"]) P_h n_L).pool
      have sB := ((((((((s_a).trans s_b).trans s_c).trans s_d).trans s_e).trans s_f).trans s_g).trans s_h).trans s_L
      have hoB := sB _ _ hoa
      have lB : DpAll K (del (upd A_h p_L (.lst [V.ref p_a, V.ref p_b, V.ref p_d, V.ref p_g, V.ref p_h, V.str "take"])) p) [V.ref p_a, V.ref p_b, V.ref p_d, V.ref p_g, V.ref p_h, V.str "take"] (oddB w0) := (.cons (dp_same (del_mono (p := p) s_L) _ _ (dp_same (del_mono (p := p) s_h) _ _ (dp_same (del_mono (p := p) s_g) _ _ (dp_same (del_mono (p := p) s_f) _ _ (dp_same (del_mono (p := p) s_e) _ _ (dp_same (del_mono (p := p) s_d) _ _ (dp_same (del_mono (p := p) s_c) _ _ (dp_same (del_mono (p := p) s_b) _ _ d_a)))))))) (.cons (dp_same (del_mono (p := p) s_L) _ _ (dp_same (del_mono (p := p) s_h) _ _ (dp_same (del_mono (p := p) s_g) _ _ (dp_same (del_mono (p := p) s_f) _ _ (dp_same (del_mono (p := p) s_e) _ _ (dp_same (del_mono (p := p) s_d) _ _ (dp_same (del_mono (p := p) s_c) _ _ d_b))))))) (.cons (dp_same (del_mono (p := p) s_L) _ _ (dp_same (del_mono (p := p) s_h) _ _ (dp_same (del_mono (p := p) s_g) _ _ (dp_same (del_mono (p := p) s_f) _ _ (dp_same (del_mono (p := p) s_e) _ _ d_d))))) (.cons (dp_same (del_mono (p := p) s_L) _ _ (dp_same (del_mono (p := p) s_h) _ _ d_g)) (.cons (dp_same (del_mono (p := p) s_L) _ _ d_h) (.cons (.str _) .nil))))))
      have eL : upd A_h p_L (.lst [V.ref p_a, V.ref p_b, V.ref p_d, V.ref p_g, V.ref p_h, V.str "take"]) p_L = some (.lst [V.ref p_a, V.ref p_b, V.ref p_d, V.ref p_g, V.ref p_h, V.str "take"]) := upd_same
      generalize upd A_h p_L (.lst [V.ref p_a, V.ref p_b, V.ref p_d, V.ref p_g, V.ref p_h, V.str "take"]) = A_L at s_L P_L sB hoB lB eL ⊢
      have lva := dpAll_len hva
      refine ⟨_, hoB, _, eL, ?_, fun r nr => hM _ _ ⟨r, _, rfl, sB.trans (same_new nr), upd_same, (P_L.ne_none nr).symm, dps_app (dps_same (del_mono (p := p) (sB.trans (same_new nr))) _ _ hva) (dps_same (del_mono (p := p) (same_new nr)) _ _ lB)⟩⟩
      rw [lva]
      show 7 + 6 ≤ sizeLine
      omega
    rintro τ G3 ⟨oc, vc, rfl, s3, hoc, nocp, hvc⟩
    have s13 := s2.trans s3
    have g3 := Gr.ofSame P1 s13
    have gH3 := g1.trans g3
    have P3 := g3.pool
    have hs3 := Same.sqT s13 hs1
    have hx3 := dps_same (del_mono (p := p) s13) _ _ hx1
    have ctk : cutV xs none (some (a : Int)) = xs.take a := cut_to xs ha
    have cdr : cutV xs (some (a : Int)) none = xs.drop a := cut_from xs ha
    have ltk := ls0.take a
    have ldr := ls0.drop a
    /- a block with something put in -/
    have put : ∀ {F : Hp} {x : V} {e : PyData} {r : Addr}, Gr p G F → SqT K F r (xs.take a) → Dp K (del F p) x e → Sml 20 60000 e → 1 ≤ sizeLine ∧ ∀ q, F q = none → rCatA K (.ref r) (.ref q) (upd F q (.tup [x])) fun x H1 => rSlA K (.ref ba) (some (a : Int)) none H1 fun y H2 => rCatA K x y H2 Q := fun {F x e r} gF hr hx he => by
      refine ⟨by decide, fun q nq => ?_⟩
      have sq := same_new (o := .tup [x]) nq
      have gq := gF.trans (Gr.new (o := .tup [x]) gF.pool nq)
      have lt := List.length_take_le a xs
      have ld : (xs.drop a).length ≤ xs.length := by rw [List.length_drop]; omega
      refine cat_res (Same.sqT sq hr) (SqT.of upd_same) (by show (xs.take a).length + 1 ≤ sizeLine; omega) fun r2 B sB hr2 => ?_
      have gB := gq.trans (Gr.ofSame gq.pool sB)
      refine sl_res (gB.tup hP hs) fun r3 C sC hr3 => ?_
      rw [cdr] at hr3
      refine cat_res (Same.sqT sC hr2) hr3 (by rw [List.length_append]; show (xs.take a).length + 1 + (xs.drop a).length ≤ sizeLine; omega) fun r4 E sE hr4 => ?_
      have gC := gB.trans (Gr.ofSame gB.pool sC)
      have gE := gC.trans (Gr.ofSame gC.pool sE)
      have hxE := dps_same (del_gr gE) _ _ hps0
      have heE : Dp K (del E p) x e := dp_same (del_mono (((sq.trans sB).trans sC).trans sE)) _ _ hx
      refine kq (.ref r4) (.tuple ((ds.take a ++ [e]) ++ ds.drop a)) E gE (.tup (del_tup gE.pool hr4) (dps_app (dps_app (dpAll_take a hxE) (.cons heE .nil)) (dpAll_drop a hxE))) ?_
      exact ((((ltk.mono (k' := 20) (by decide) (Nat.le_refl _) (Nat.le_refl _)).app (Ls.one he)).app (ldr.mono (k' := 20) (by decide) (Nat.le_refl _) (Nat.le_refl _))).tup (by decide)).mono (by decide) (by decide)
    refine cut_hide (fun τ F => τ = [some (.ref p), some (.ref d), some (.ref ba), some (.str w0), some (.int (a : Nat)), some (.int y), some (.ref oc), none] ∧ F = G3) (fun M' hM => ?_) ?_
    · walk_at "wp"
      refine ite2 (fun c => ?_) fun c => hM _ _ ⟨rfl, rfl⟩
      refine sl_res hs3 fun r A sA hA => ?_
      rw [ctk] at hA
      have gA := gH3.trans (Gr.ofSame gH3.pool sA)
      have lvc := dpAll_len hvc
      refine ⟨p, oc, vc, rfl, gA.pool, .inl ⟨SqL.of (sA _ _ hoc), nocp⟩, by rw [lvc]; show 0 < 7 + 6; decide, fun x F hx gF => ?_⟩
      have hvF := dps_same ((del_mono sA).trans (del_gr gF)) _ _ hvc
      obtain ⟨i, hi⟩ := List.getElem?_of_mem hx
      obtain ⟨e, he1, he2⟩ := dpAll_get hvF hi
      exact put (gA.trans gF) (gF.tup gA.pool hA) he2 ((odd_sml hw0 e (List.mem_of_getElem? he1)).mono (by decide) (by decide))
    rintro τ F ⟨rfl, rfl⟩
    refine cut_hide (fun τ F2 => ∃ iv e, τ = [some (.ref p), some (.ref d), some (.ref ba), some (.str w0), some (.int (a : Nat)), some (.int y), some (.ref oc), some iv] ∧ Gr p F F2 ∧ Dp K (del F2 p) iv e ∧ Sml 18 54000 e) (fun M' hM => ?_) ?_
    · walk_at "wp"
      refine ⟨by decide, fun p_a n_a => ?_⟩
      have s_a := same_new (o := .tup [V.str "leave", V.str w0, V.int 0]) n_a
      have P_a := (Gr.new (o := .tup [V.str "leave", V.str w0, V.int 0]) P3 n_a).pool
      have d_a := mk_sd (K := K) (vs := [V.str "leave", V.str w0, V.int 0]) (ds := [.str "leave", .str w0, .int 0]) P3 n_a (.cons (.str _) (.cons (.str _) (.cons (.int _) .nil)))
      generalize upd F p_a (.tup [V.str "leave", V.str w0, V.int 0]) = A_a at s_a P_a d_a ⊢
      refine ⟨by decide, fun p_b n_b => ?_⟩
      have s_b := same_new (o := .tup [V.ref p_a]) n_b
      have P_b := (Gr.new (o := .tup [V.ref p_a]) P_a n_b).pool
      have d_b := mk_sd (K := K) (vs := [V.ref p_a]) (ds := [.tuple [.str "leave", .str w0, .int 0]]) P_a n_b (.cons d_a .nil)
      have q_b : SqT K (del (upd A_a p_b (.tup [V.ref p_a])) p) p_b [V.ref p_a] := SqT.of (del_new P_a n_b)
      generalize upd A_a p_b (.tup [V.ref p_a]) = A_b at q_b s_b P_b d_b ⊢
      have key : ∀ {E : Hp} {q : Addr} {vs : List V} {es : List PyData}, Gr p F E → SqT K E q vs → vs.length ≤ 1 → DpAll K (del E p) vs es → Ls 8 2001 1 es → rSlA K (.ref ba) none (some 1) E fun y_2 H2 => rCatA K (.ref q) y_2 H2 fun x H1 => 4 ≤ sizeLine ∧ ∀ p_3, H1 p_3 = none → M' [some (.ref p), some (.ref d), some (.ref ba), some (.str w0), some (.int (a : Nat)), some (.int y), some (.ref oc), some (.ref p_3)] (upd H1 p_3 (.tup [V.str "while", V.str w0, V.int 1, x])) := fun {E q vs es} gE hq hv1 hv le => by
        have gGE := gH3.trans gE
        refine sl_res (gGE.tup hP hs) fun r B sB hr => ?_
        have c1 : cutV xs none (some (1 : Int)) = xs.take 1 := cut_to (m := 1) xs (by omega)
        rw [c1] at hr
        have lt1 := List.length_take_le 1 xs
        refine cat_res (Same.sqT sB hq) hr (by omega) fun r2 C sC hr2 => ⟨by decide, fun z nz => ?_⟩
        have gB := gE.trans (Gr.ofSame gE.pool sB)
        have gC := gB.trans (Gr.ofSame gB.pool sC)
        have gz := gC.trans (Gr.new (o := .tup [V.str "while", V.str w0, V.int 1, .ref r2]) gC.pool nz)
        have hxC := dps_same (del_gr (gH3.trans gC)) _ _ hps0
        have hvC := dps_same (del_mono (p := p) (sB.trans sC)) _ _ hv
        have dC : Dp K (del C p) (.ref r2) (.tuple (es ++ ds.take 1)) := .tup (del_tup gC.pool hr2) (dps_app hvC (dpAll_take 1 hxC))
        refine hM _ _ ⟨.ref z, .tuple [.str "while", .str w0, .int 1, .tuple (es ++ ds.take 1)], rfl, gz, mk_sd gC.pool nz (.cons (.str _) (.cons (.str _) (.cons (.int _) (.cons dC .nil)))), ?_⟩
        have st : Sml 9 53001 (.tuple (es ++ ds.take 1)) := (le.app (ls0.take 1)).tup (by decide)
        have w1 : Ls 9 101 1 [PyData.str "while"] := Ls.one ((lit_wz (by decide +kernel)).mono (by decide) (Nat.le_refl _))
        have w2 : Ls 9 101 1 [PyData.str w0] := Ls.one ((lit_wz hw0).mono (by decide) (Nat.le_refl _))
        have w3 : Ls 9 101 1 [PyData.int 1] := Ls.one ((sml_i (by decide) (by decide)).mono (by decide) (Nat.le_refl _))
        exact (((w1.app w2).app (w3.app (Ls.one st))).tup (by decide)).mono (by decide) (by decide)
      refine ⟨p, 2, rfl, P_b, by decide, fun j E j0 j1 gE => ?_⟩
      have sAB := s_a.trans s_b
      have gFE := (Gr.ofSame P3 sAB).trans gE
      have h_b : SqT K A_b p_b [V.ref p_a] := by
        exact Same.sqT del_sub q_b
      have hj : j = 0 ∨ j = 1 := by omega
      refine ⟨j, rfl, [V.ref p_a], gE.tup P_b h_b, by simp, ?_⟩
      rcases hj with rfl | rfl
      · refine .inr ⟨rfl, fun z nz => ?_⟩
        have gz := gFE.trans (Gr.new (o := .tup []) gFE.pool nz)
        exact key gz (SqT.of upd_same) (by decide) .nil (Ls.nil.mono (Nat.le_refl _) (by decide) (by decide))
      · refine .inl ⟨rfl, ?_⟩
        have dl : DpAll K (del E p) [V.ref p_a] [.tuple [.str "leave", .str w0, .int 0]] := dps_same (del_gr gE) _ _ (.cons (dp_same (del_mono (p := p) s_b) _ _ d_a) .nil)
        exact key gFE (gE.tup P_b h_b) (by simp) dl ((Ls.one ((odd_sml hw0 _ (by simp [oddA])).mono (by decide) (Nat.le_refl _))))
    rintro τ F2 ⟨iv, e, rfl, gF2, hiv, se⟩
    have g2 := gH3.trans gF2
    refine cut_hide (fun τ F3 => τ = [some (.ref p), some (.ref d), some (.ref ba), some (.str w0), some (.int (a : Nat)), some (.int y), some (.ref oc), some iv] ∧ F3 = F2) (fun M' hM => ?_) ?_
    · walk_at "wp"
      refine ⟨rfl, ite2 (fun c => ?_) fun c => hM _ _ ⟨rfl, rfl⟩⟩
      refine sl_res (g2.tup hP hs) fun r A sA hA => ?_
      rw [ctk] at hA
      exact put (g2.trans (Gr.ofSame g2.pool sA)) hA (dp_same (del_mono sA) _ _ hiv) (se.mono (by decide) (by decide))
    rintro τ F3 ⟨rfl, rfl⟩
    refine cut_hide (fun τ F4 => τ = [some (.ref p), some (.ref d), some (.ref ba), some (.str w0), some (.int (a : Nat)), some (.int y), some (.ref oc), some iv] ∧ F4 = F3) (fun M' hM => ?_) ?_
    · walk_at "wp"
      refine ⟨rfl, ite2 (fun c => ?_) fun c => hM _ _ ⟨rfl, rfl⟩⟩
      refine ⟨by decide, fun p_a n_a => ?_⟩
      have s_a := same_new (o := .tup [iv]) n_a
      have P_a := (Gr.new (o := .tup [iv]) g2.pool n_a).pool
      have d_a := mk_sd (K := K) (vs := [iv]) (ds := [e]) g2.pool n_a (.cons hiv .nil)
      generalize upd F3 p_a (.tup [iv]) = A_a at s_a P_a d_a ⊢
      refine ⟨by decide, fun p_b n_b => ?_⟩
      have s_b := same_new (o := .tup [iv]) n_b
      have P_b := (Gr.new (o := .tup [iv]) P_a n_b).pool
      have d_b := mk_sd (K := K) (vs := [iv]) (ds := [e]) P_a n_b (.cons (dp_same (del_mono (p := p) s_a) _ _ hiv) .nil)
      generalize upd A_a p_b (.tup [iv]) = A_b at s_b P_b d_b ⊢
      refine ⟨by decide, fun p_c n_c => ?_⟩
      have s_c := same_new (o := .tup [V.str "while", V.str w0, V.int 0, V.ref p_b]) n_c
      have P_c := (Gr.new (o := .tup [V.str "while", V.str w0, V.int 0, V.ref p_b]) P_b n_c).pool
      have d_c := mk_sd (K := K) (vs := [V.str "while", V.str w0, V.int 0, V.ref p_b]) (ds := [.str "while", .str w0, .int 0, .tuple [e]]) P_b n_c (.cons (.str _) (.cons (.str _) (.cons (.int _) (.cons d_b .nil))))
      generalize upd A_b p_c (.tup [V.str "while", V.str w0, V.int 0, V.ref p_b]) = A_c at s_c P_c d_c ⊢
      refine ⟨by decide, fun p_d n_d => ?_⟩
      have s_d := same_new (o := .tup [V.ref p_c]) n_d
      have P_d := (Gr.new (o := .tup [V.ref p_c]) P_c n_d).pool
      have d_d := mk_sd (K := K) (vs := [V.ref p_c]) (ds := [.tuple [.str "while", .str w0, .int 0, .tuple [e]]]) P_c n_d (.cons d_c .nil)
      generalize upd A_c p_d (.tup [V.ref p_c]) = A_d at s_d P_d d_d ⊢
      refine ⟨by decide, fun p_e n_e => ?_⟩
      have s_e := same_new (o := .tup [V.str "if", V.str w0, V.int 0, V.ref p_a, V.ref p_d]) n_e
      have P_e := (Gr.new (o := .tup [V.str "if", V.str w0, V.int 0, V.ref p_a, V.ref p_d]) P_d n_e).pool
      have d_e := mk_sd (K := K) (vs := [V.str "if", V.str w0, V.int 0, V.ref p_a, V.ref p_d]) (ds := [.str "if", .str w0, .int 0, .tuple [e], .tuple [.tuple [.str "while", .str w0, .int 0, .tuple [e]]]]) P_d n_e (.cons (.str _) (.cons (.str _) (.cons (.int _) (.cons (dp_same (del_mono (p := p) s_d) _ _ (dp_same (del_mono (p := p) s_c) _ _ (dp_same (del_mono (p := p) s_b) _ _ d_a))) (.cons d_d .nil)))))
      generalize upd A_d p_e (.tup [V.str "if", V.str w0, V.int 0, V.ref p_a, V.ref p_d]) = A_e at s_e P_e d_e ⊢
      refine ⟨by decide, fun p_f n_f => ?_⟩
      have s_f := same_new (o := .tup [V.ref p_e]) n_f
      have P_f := (Gr.new (o := .tup [V.ref p_e]) P_e n_f).pool
      have d_f := mk_sd (K := K) (vs := [V.ref p_e]) (ds := [.tuple [.str "if", .str w0, .int 0, .tuple [e], .tuple [.tuple [.str "while", .str w0, .int 0, .tuple [e]]]]]) P_e n_f (.cons d_e .nil)
      generalize upd A_e p_f (.tup [V.ref p_e]) = A_f at s_f P_f d_f ⊢
      have sAll := ((((s_a.trans s_b).trans s_c).trans s_d).trans s_e).trans s_f
      refine kq _ _ _ (g2.trans (Gr.ofSame g2.pool sAll)) d_f ?_
      have L : ∀ z : Str, wordS z = true → ∀ {k : Nat}, Ls k 101 1 [PyData.str z] := fun z hz {k} => Ls.one ((lit_wz hz).mono (Nat.zero_le _) (Nat.le_refl _))
      have Z : ∀ {k : Nat}, Ls k 101 1 [PyData.int 0] := fun {k} => Ls.one ((sml_i (by decide) (by decide)).mono (Nat.zero_le _) (Nat.le_refl _))
      have t1 : Sml 19 54001 (.tuple [e]) := (Ls.one se).tup (by decide)
      have t2 : Sml 20 55000 (.tuple [.str "while", .str w0, .int 0, .tuple [e]]) := ((((L _ (by decide +kernel)).app (L _ hw0)).app (Z.app (Ls.one t1))).tup (by decide)).mono (by decide) (by decide)
      have t3 : Sml 21 55001 (.tuple [.tuple [.str "while", .str w0, .int 0, .tuple [e]]]) := (Ls.one t2).tup (by decide)
      have t4 : Sml 22 120000 (.tuple [.str "if", .str w0, .int 0, .tuple [e], .tuple [.tuple [.str "while", .str w0, .int 0, .tuple [e]]]]) := ((((L _ (by decide +kernel)).app (L _ hw0)).app (Z.app ((Ls.one (t1.mono (k' := 21) (by decide) (Nat.le_refl _))).app (Ls.one t3)))).tup (by decide)).mono (by decide) (by decide)
      exact ((Ls.one t4).tup (by decide)).mono (by decide) (by decide)
    rintro τ F4 ⟨rfl, rfl⟩
    walk_at "wp"
    refine ⟨rfl, ite2 (fun c => ?_) fun c => ?_⟩
    · refine ⟨xs, g2.tup hP hs, by intro e0; rw [e0] at lx; rw [← lx] at hl1; exact absurd hl1 (by decide), by decide, by decide, by omega, fun q nq => ?_⟩
      have gq := g2.trans (Gr.new (o := .tup (List.replicate (Int.toNat 6) xs).flatten) g2.pool nq)
      refine kq (.ref q) (.tuple (List.replicate 6 ds).flatten) _ gq (mk_sd g2.pool nq (dps_rep (dps_same (del_gr g2) _ _ hps0) 6)) (((ls0.rep 6).tup (by decide)).mono (by decide) (by decide))
    · refine ⟨xs, .inr (g2.tup hP hs), fun q nq => ?_⟩
      have gq := g2.trans (Gr.new (o := .lst xs) g2.pool nq)
      exact kq (.ref q) (.list ds) _ gq (mk_ld g2.pool nq (dps_same (del_gr g2) _ _ hps0)) ((ls0.lst (by decide)).mono (by decide) (by decide))
end

end YY

set_option maxRecDepth 100000
set_option maxHeartbeats 4000000
namespace YY
open PySem PySem.Spec PyProof.Rows L2 XX
local macro_rules | `(tactic| walk_at "wp") => `(tactic| simp only [Int.zero_add, L2.start, LcEnd, List.append_nil, List.cons.injEq, List.cons_append, List.getElem?_cons_succ, List.getElem?_cons_zero, List.length_cons, List.length_nil, List.map_cons, List.map_nil, List.nil_append, List.replicate, List.replicate_succ, List.replicate_zero, List.set_cons_succ, List.set_cons_zero, Nat.reduceAdd, Nat.reduceSub, Option.some.injEq, StX.tMakeR, StX.tStar, V.bl.injEq, V.int.injEq, V.ref.injEq, V.str.injEq, V.ty.injEq, WE, and_assoc, and_false, and_true, bool_ite_false, bool_ite_true, cxOf_K, cxOf_noxK, dec_ite, decide_eq_true_eq, exists_and_left, exists_and_right, exists_const, exists_eq_left, exists_eq_left', false_and, false_or, gCons, gName, gNil, gSub, gTup, iEnumA, iItems, iKeys, iList, iRng1, iRng2, iStr, iTup, iZipB, ite_false, ite_true, ndec_ite, or_false, rAppend, rCat, rCatT, rEq, rEqI, rEqK, rEqV, rExt2, rI, rI0, rIn, rInRg, rIndex, rIsD, rIsE, rIsE2, rIxD, rIxL, rIxS, rIxT, rLenI, rLenK, rListStr, rMax, rMaxDef, rSetIM, rEqT, sFldAug, rAdd, rMin, rMulS, rNe, rNeDA, rNeV, rRange1, rRep, rRepA, rReprE, rReprI, rSetD, rSetI, rSetL, rSlL, rSlT, rSortedSet, rU, reduceCtorEq, reduceIte, sFld, tAnd, tAndV, tAsg, tAug, tB, tBM, tBM0, tC, tCB, tCKw, tDGetT, tCall, tCallS, tChain, tCons, tDGet, tDIn, tDNewK, tDNotIn, tDcT_eq, tDc_eq, tDisp, tDrop, tErr, tFld, tFor_eq, tIf, tIfS, tIxI, tLc2_eq, tLc_eq, tLenSetS, tLock, tLockE, tLst, tLstRg, tM1, tMakeRS, tMakeS, tMakeV, tMakeVS, tMeth, tMethX, tMkO, tMulA, tMulD, tNext, tNil, tNoPart, tNot, tNotV, tOp, tOpI, tOpR, tOr, tOrV, tOst, tPairs, tPar, tPar3, tPart, tRet, tRetN, tRevT, tRg2, tSMeth, tSeq, tSl, tTest, tTup, tUn, tVar, tVeI, tXf, tYes, true_and, wAs, wMA, wipe, rSum, rRep01, rRepT])
/-! ### the law -/
abbrev sLaw20 : Stmt := topS 55
theorem SPlAt.gr {K : PySem.W.Frag} {H G : Hp} {p d : Addr} {g : SPl} (P : Pool H p) (ok : g.Ok) (gr : Gr p H G) (h : SPlAt K H d g) : SPlAt K G d g := by
  obtain ⟨bv, wa, h1, h2, h3⟩ := h
  exact ⟨bv, wa, gr.keep _ _ (P.neD h1) h1, gr.dp P ok.nl h2, gr.tup P h3⟩
theorem SPlAt.same {K : PySem.W.Frag} {H G : Hp} {d : Addr} {g : SPl} (s : Same H G) (h : SPlAt K H d g) : SPlAt K G d g := by
  obtain ⟨bv, wa, h1, h2, h3⟩ := h
  exact ⟨bv, wa, s _ _ h1, dp_same s _ _ h2, Same.sqT s h3⟩
theorem dps_intD {K : PySem.W.Frag} {H : Hp} : ∀ ns : List Int, DpAll K H (ns.map V.int) (ns.map PyData.int)
  | [] => .nil
  | n :: ns => .cons (.int n) (dps_intD ns)
theorem same_gr {p : Addr} {H G F : Hp} (n : H p = none) (s : Same H G) (g : Gr p G F) : Same H F := fun b o h => g.keep b o (fun z => by
  rw [z, n] at h
  cases h) (s b o h)
theorem rpN : Rp .none := sml_non.rp (by decide) (by decide)
def oddR : List PyData := [.tuple [], .none, .list [.str "x"], .tuple [.str "x", .str "x"], .str "x"]
def oddN : List PyData := [.int 1, .int 4, .bool true, .none]
theorem oddR_ok : ∀ e ∈ oddR, Sml 3 2000 e ∧ regsB e = false := by
  have L : Sml 0 100 (.str "x") := lit_wz (by decide +kernel)
  intro e he
  simp only [oddR, List.mem_cons, List.not_mem_nil, or_false] at he
  rcases he with rfl | rfl | rfl | rfl | rfl
  · exact ⟨(Ls.nil.tup (k := 0) (by decide)).mono (by decide) (by decide), rfl⟩
  · exact ⟨sml_non.mono (by decide) (by decide), rfl⟩
  · exact ⟨((Ls.one L).lst (by decide)).mono (by decide) (by decide), rfl⟩
  · exact ⟨(((Ls.one L).app (Ls.one L)).tup (by decide)).mono (by decide) (by decide), by decide +kernel⟩
  · exact ⟨L.mono (by decide) (by decide), rfl⟩
theorem oddN_ok : ∀ e ∈ oddN, Sml 3 2000 e ∧ btw e 2 3 = false := by
  intro e he
  simp only [oddN, List.mem_cons, List.not_mem_nil, or_false] at he
  rcases he with rfl | rfl | rfl | rfl
  · exact ⟨(sml_i (by decide) (by decide)).mono (by decide) (by decide), rfl⟩
  · exact ⟨(sml_i (by decide) (by decide)).mono (by decide) (by decide), rfl⟩
  · exact ⟨sml_bl.mono (by decide) (by decide), rfl⟩
  · exact ⟨sml_non.mono (by decide) (by decide), rfl⟩
def wsD (ws : List Str) : PyData := .tuple (ws.map PyData.str)
theorem SPl.Ok.regs {g : SPl} (h : g.Ok) : regsB (wsD g.ws) = true := words_regs h.wk
theorem SPl.Ok.wsS {g : SPl} (h : g.Ok) : Sml 1 202 (wsD g.ws) := by
  have hm := h.wk.most
  have e := (Sml.tup (m := 2) (k := 0) (n := 100) (ds := g.ws.map PyData.str) (fun d hd => ?_) (by rw [List.length_map]; exact hm) (by decide))
  · exact e
  · obtain ⟨z, hz, rfl⟩ := List.mem_map.1 hd
    exact lit_wz (word_B (h.wk.all z hz))
theorem SPl.Ok.btw {g : SPl} (h : g.Ok) : btw (.int g.size) 2 3 = true := btw_of h.s2 h.s3
theorem SPl.Ok.blk {g : SPl} (h : g.Ok) : Sml 9 51000 g.blk := ok_wz (fun z hz => word_B (h.wk.all z hz)) h.s3 h.ok
theorem heard_ws {g : SPl} (h : g.Ok) (d : PyData) : heardL d (wsD g.ws) (.int g.size) = dueL g.ws g.size d := by
  unfold heardL dueL
  rw [if_neg (by rw [h.regs]; exact Bool.noConfusion), if_neg (by rw [h.btw]; exact Bool.noConfusion)]
  have e : strsOf (wsD g.ws) = g.ws := strsOf_map g.ws
  rw [e]
  rfl
theorem heard_made {g : SPl} (h : g.Ok) : heardL g.blk (wsD g.ws) (.int g.size) = ([Str.ofString "made"] : List Str) := by
  rw [heard_ws h]
  unfold dueL
  rw [if_neg (by rw [h.ok]; exact Bool.noConfusion)]
theorem SPl.Ok.rpI {g : SPl} (h : g.Ok) : Rp (.int g.size) := Sml.rp (sml_int (by have := h.s2; omega) (by have := h.s3; omega)) (by decide) (by decide)
/-- two texts in a list, as two lists -/
theorem ne_texts {K : PySem.W.Frag} {H : Hp} {a b : Addr} {zs : List Str} {Q : VK} (ha : H a = some (.lst (zs.map V.str))) (hb : H b = some (.lst (zs.map V.str))) (q : Q (.bl false) H) : rNeS K (.ref a) (.ref b) H Q := ⟨a, b, zs, rfl, rfl, SqL.of ha, SqL.of hb, q⟩
def Sl20 (a : V) (τ : L2.St) : Prop := ∃ u1 u2 u3 u4 u5 u6 u7 u8 u9 u10 u11 u12 u13 : Option V, τ = [some a, u1, u2, u3, u4, u5, u6, u7, u8, u9, u10, u11, u12, u13]
section
variable {P : Program} {w : World} {K : PySem.W.Frag} {mg : Str → Option Value} {base : Heap}
structure PartsLaw20 (P : Program) (w : World) (K : PySem.W.Frag) (mg : Str → Option Value) (base : Heap) (CS CP fS : Addr) (fdS : FuncData) (cR cN cB : Addr) : Prop where
  pool : FnC P w K mg base CX0 2 "_law_pool" ["cell", "salt", "many"] spPool
  plan : FnC P w K mg base CX0 11 "_law_source_plan" ["pool", "plain"] (spLSPlan K)
  bent : FnC P w K mg base CX0 3 "_law_bent" ["pool", "plan"] (spLBent K)
  heard : FnD P w K mg base CX0 17 "_law_heard" ["block", "words", "size"] (spLHeard K)
  due : FnD P w K mg base CX0 7 "_law_due" ["block", "words", "size"] (spLDue K)
  mkS : Mk K CS fS
  init : FnOk P w K mg base (L2.CX P w) 15 fS fdS ["self", "block", "registers", "values"] (spSrc K CS CP cR cN cB)
  gS : mg "Source" = some (.ref CS)
  kb : KBn K fdS ["self", "block", "registers", "values"] 2 ["registers", "values"] gCat gCat
  eqS : MtC P w K mg base CX0 1 CS "__eq__" ["self", "other"] (spEqS K CS CP)
  scn : PySem.W.notFirst K CS (.type "tuple") = true
  sne : PySem.W.findIn K (.ref CS) "__ne__" = some (some (.builtin "object.__ne__"))
  sob : PySem.W.subIn K (.ref CS) (.type "object") = some true
theorem fun_okG {f : Addr} {fd : FuncData} {CX : CXT} {x : Str} {st : Stmt} {N ps : List Str} {k : Nat} {sp : Sp} (F : L2.Fun K x x st f fd) (S : FnScope N ps (defScope st)) (len : ∀ vs H Q E, sp vs H Q E → vs.length = ps.length)
    (hbody : ∀ (cdv : Value) (A : Around) (outer : List Env) (s : Shared) (H : Hp) (vs : List V) (Q : VK) (E : XK), (A.deeper (envOfC x (defScope st) s.heap.objs.size f cdv)).guards = some [] → Room k (A.deeper (envOfC x (defScope st) s.heap.objs.size f cdv)) → sp vs H Q E →
      ∃ t, PSs (cxOf CX P w K mg base N x (defScope st) f cdv A outer s H E) (defBody st) t ∧ t { nx := fun _ H' => Q .non H', rt := Q } (L2.start N vs) H) : FnG P w K mg base CX (k + 1) f fd ps sp := by
  refine ⟨len, fun A outer s H args us vs Q E hg hr e0 hbd r hsp => ?_⟩
  obtain ⟨oc, od, kV, doc, pm, an, cdv, ct, osl, rfl, lk, hcd⟩ := F.ex
  have len0 := len _ _ _ _ hsp
  have hin : K.In s.heap := e0.mod.kin.keeps fun b o q => (e0.bs b o q).1
  have hnl : s.heap.NoLimit := e0.mod.nolimit.keeps fun b o q => (e0.bs b o q).1
  have knd : ∀ y ∈ ps.zip us, (defScope st).names.lookup y.1 = some .local ∨ ((defScope st).names.lookup y.1 = some .cell ∧ ((cellsFrom (s.heap.objs.size + 1) (defScope st).names []).lookup y.1).isSome = true) := by
    rintro ⟨n, v⟩ hy
    exact (S.par n (List.of_mem_zip hy).1).imp id fun q => ⟨q, PySem.W.cellsFrom_some _ _ _ (.inl q)⟩
  refine codeAny_call_function hr.depth (hin _ _ lk) rfl S.co S.gen rfl (PySem.W.codeRec_of hin hcd) (hbd _ _ _ _ (wpAny_newFunctionEnv_cells S.kind knd fun env he s1 x1 => ?_))
  subst he
  refine ⟨hnl.keeps x1.toInCall.keep, codeAny_func ?_⟩
  obtain ⟨t, ht, hq⟩ := hbody cdv A outer s H vs Q E (guards_deeper hg) (hr.deeper _) hsp
  have fin : ∀ {s' : Shared} {τ : L2.St} {H' : Hp} {v : V} {u : Value}, Inv (cxOf CX P w K mg base N x (defScope st) f cdv A outer s H E) [] τ H' s' → RelV v u → Q v H' → CE outer P w H s Q u s' :=
    fun J rv q => ⟨_, _, J.os, J.bare, J.base, J.hok, rv, q⟩
  refine wpAny_mono (ht.run [] s1 (L2.start N vs) H _ (inv_start S hr.hd e0 len0 r x1) hq) (fun fl s' hs => ?_) fun e s' hs => hs
  match fl, hs with
  | .ret u, ⟨v, τ, H', J, rv, q⟩ => exact fin J rv q
  | .next, ⟨τ, H', J, q⟩ => exact fin (v := V.non) (u := Value.none) J rfl q
  | .brk, ⟨_, _, _, q⟩ => exact q.elim
  | .cont, ⟨_, _, _, q⟩ => exact q.elim
def spLaw20 (K : PySem.W.Frag) : Sp := fun vs H Q _ => ∃ (a : Addr) (ns : List Int), vs = [.ref a] ∧ ns.length ≤ 63 ∧ SqL K H a (ns.map V.int) ∧ ∀ H', Q (.bl true) H'
theorem scLaw20 : FnScope ["script", "k", "cell", "pool", "plan", "words", "size", "turn", "block", "odd", "other", "one", "two", "again"] ["script"] (defScope sLaw20) := ⟨rfl, rfl, rfl, by decide +kernel, rfl, by decide +kernel, by decide +kernel⟩
theorem c_law20 {CS CP fS cR cN cB f : Addr} {fdS fd : FuncData} (F : L2.Fun K "law" "law" sLaw20 f fd) (T : Bl3 mg) (C : PartsLaw20 P w K mg base CS CP fS fdS cR cN cB) : FnG P w K mg base CX0 18 f fd ["script"] (spLaw20 K) := by
  refine fun_okG F scLaw20 (fun vs H Q E h => ?_) (fun cdv A0 outer s H vs Q E hgu hr h => ?_)
  · obtain ⟨a, ns, rfl, _⟩ := h
    rfl
  · obtain ⟨a, ns, rfl, hn, hS, k⟩ := h
    have sc := scLaw20
    have hu := hu_of hr
    have hu80 : (A0.deeper (envOfC "law" (defScope sLaw20) s.heap.objs.size f cdv)).units + 80 < cLine := by have := hr.un; omega
    have hu65 : (A0.deeper (envOfC "law" (defScope sLaw20) s.heap.objs.size f cdv)).units + 65 < cLine := by omega
    have hr1 : Room 1 _ := hr.mono (by decide)
    have hr2 : Room 2 _ := hr.mono (by decide)
    have hr3 : Room 3 _ := hr.mono (by decide)
    have hr7 : Room 7 _ := hr.mono (by decide)
    have hr11 : Room 11 _ := hr.mono (by decide)
    have hr16 : Room 16 _ := hr.mono (by decide)
    refine ⟨_, (pss_cut (ps_for (passes_of rfl) rfl (pi_enumA false (by rfl) T.n_enumerate (pa_cons (pe_op op_cat (pe_slice sl_list (pv 0) po_none (po_some pe_int)) (pe_op op_rep (pe_lst (pa_cons pe_int pa_nil)) (pe_callTy call_int1 (by rfl) T.n_int (by decide +kernel) (pa_cons (pe_cmpR (op_eqD hr.units) (pv 0) (pe_lst pa_nil) (nomark _)) pa_nil)))) pa_nil)) (pg_tup (by rfl) (pgs_cons (pg_name (i := 1) sc.nd rfl (Or.inl rfl)) (pgs_cons (pg_name (i := 2) sc.nd rfl (Or.inl rfl)) pgs_nil)))
      (pss_cut (ps_set (i := 3) sc.nd rfl (Or.inl rfl) (pe_c C.pool hr2 rfl (pa_cons (pv 2) (pa_cons (pe_op op_add pe_int (pv 1)) (pa_cons pe_int pa_nil)))))
      (pss_cut (ps_set (i := 4) sc.nd rfl (Or.inl rfl) (pe_c C.plan hr11 rfl (pa_cons (pv 3) (pa_cons (pe_cmpR op_eq (pe_op op_mod (pv 1) pe_int) pe_int (nomark _)) pa_nil))))
      (pss_cut (ps_par (i := 5) (j := 6) (by rfl) sc.nd rfl rfl (by decide) rfl rfl (pa_cons (pe_dget hu (pv 4) pe_str (fun _ _ => rfl)) (pa_cons (pe_dget hu (pv 4) pe_str (fun _ _ => rfl)) pa_nil)) (by rfl))
      (pss_cut (ps_if (pt_cmpR (op_neS hr.units) (pe_d C.heard hgu hr pass0 rfl (pa_cons (pe_dget hu (pv 4) pe_str (fun _ _ => rfl)) (pa_cons (pv 5) (pa_cons (pv 6) pa_nil)))) (pe_lst (pa_cons pe_str pa_nil)) (nomark _)) (pss_one (ps_ret pe_bl)) pss_nil)
      (pss_cut (ps_for (passes_of rfl) rfl (pi_range1 (by rfl) T.n_range (pa_cons pe_int pa_nil)) (pg_name (i := 7) sc.nd rfl (Or.inl rfl))
        (pss_cut (ps_set (i := 8) sc.nd rfl (Or.inl rfl) (pe_c C.bent hr3 rfl (pa_cons (pv 3) (pa_cons (pv 4) pa_nil))))
        (pss_one (ps_if (pt_cmpR (op_neS hr.units) (pe_d C.heard hgu hr pass0 rfl (pa_cons (pv 8) (pa_cons (pv 5) (pa_cons (pv 6) pa_nil)))) (pe_d C.due hgu hr7 pass0 rfl (pa_cons (pv 8) (pa_cons (pv 5) (pa_cons (pv 6) pa_nil)))) (nomark _)) (pss_one (ps_ret pe_bl)) pss_nil))))
      (pss_cut (ps_for (passes_of rfl) rfl (pi_list (pe_lst (pa_cons (pe_tup pa_nil) (pa_cons pe_non (pa_cons (pe_lst (pa_cons pe_str pa_nil)) (pa_cons (pe_tup (pa_cons pe_str (pa_cons pe_str pa_nil))) (pa_cons pe_str pa_nil))))))) (pg_name (i := 9) sc.nd rfl (Or.inl rfl))
        (pss_one (ps_if (pt_cmpR (op_neS hr.units) (pe_d C.heard hgu hr pass0 rfl (pa_cons pe_non (pa_cons (pv 9) (pa_cons pe_non pa_nil)))) (pe_lst (pa_cons pe_str (pa_cons (pe_callB (call_reprEK K rfl hgu hu80) (by rfl) T.n_repr (by decide +kernel) (pa_cons (pv 9) pa_nil)) pa_nil))) (nomark _)) (pss_one (ps_ret pe_bl)) pss_nil)))
      (pss_cut (ps_for (passes_of rfl) rfl (pi_list (pe_lst (pa_cons pe_int (pa_cons pe_int (pa_cons pe_bl (pa_cons pe_non pa_nil)))))) (pg_name (i := 9) sc.nd rfl (Or.inl rfl))
        (pss_one (ps_if (pt_cmpR (op_neS hr.units) (pe_d C.heard hgu hr pass0 rfl (pa_cons pe_non (pa_cons (pv 5) (pa_cons (pv 9) pa_nil)))) (pe_lst (pa_cons pe_str (pa_cons (pe_callB (call_reprEK K rfl hgu hu80) (by rfl) T.n_repr (by decide +kernel) (pa_cons (pv 9) pa_nil)) pa_nil))) (nomark _)) (pss_one (ps_ret pe_bl)) pss_nil)))
      (pss_cut (ps_set (i := 10) sc.nd rfl (Or.inl rfl) (pe_c C.plan hr11 rfl (pa_cons (pv 3) (pa_cons pe_bl pa_nil))))
      (pss_cut (ps_par (i := 11) (j := 12) (by rfl) sc.nd rfl rfl (by decide) rfl rfl (pa_cons (pe_makeS (E := fun _ => E0) (n := 1) C.mkS C.init hr16 rfl C.gS C.kb (fun σ => passLAt σ) (pa_cons (pe_dget hu (pv 4) pe_str (fun _ _ => rfl)) pa_nil) (pk_cons (pv 5) (pk_cons (pv 6) pk_nil))) (pa_cons (pe_dget hu (pv 10) pe_str (fun _ _ => rfl)) pa_nil)) (by rfl))
      (pss_cut (ps_set (i := 13) sc.nd rfl (Or.inl rfl) (pe_makeS (E := fun _ => E0) (n := 1) C.mkS C.init hr16 rfl C.gS C.kb (fun σ => passLAt σ) (pa_cons (pv 12) pa_nil) (pk_cons (pe_dget hu (pv 10) pe_str (fun _ _ => rfl)) (pk_cons (pe_dget hu (pv 10) pe_str (fun _ _ => rfl)) pk_nil))))
      (pss_one (ps_if (PW.pt (pw_or (pt_cmpR op_ne (pe_cmpR (op_eqI C.eqS C.scn hr1) (pv 11) (pv 13) (nomark _)) (pe_cmpR (op_eqK hu65) (pv 4) (pv 10) (nomark _)) (nomark _)) (pw_or1 (pt_cmpR (op_neI C.eqS C.scn C.sne C.sob hr2) (pv 11) (pe_makeS (E := fun _ => E0) (n := 1) C.mkS C.init hr16 rfl C.gS C.kb (fun σ => passLAt σ) (pa_cons (pe_dget hu (pv 4) pe_str (fun _ _ => rfl)) pa_nil) (pk_cons (pv 5) (pk_cons (pv 6) pk_nil))) (nomark _))))) (pss_one (ps_ret pe_bl)) pss_nil)))))))))))))
    (pss_one (ps_ret pe_bl))), ?_⟩
    have hz := sizeLine_eq
    refine cut_hide (fun τ G => True) (fun M' hM => ?_) (fun τ G _ => by
      walk_at "wp"
      exact k G)
    walk_at "wp"
    refine ⟨_, hS, fun p hp => ⟨by decide, fun p1 hp1 => ⟨Nat.zero_le _, fun p2 hp2 => ?_⟩⟩⟩
    have s2 : Same H (upd (upd (upd H p (.lst (cutV (ns.map V.int) none (some 6)))) p1 (.lst [.int 7])) p2 (.lst [])) := (same_new hp).trans ((same_new hp1).trans (same_new hp2))
    have np1 : p ≠ p1 := fun z => by
      rw [← z, upd_same] at hp1
      cases hp1
    have n12 : p1 ≠ p2 := fun z => by
      rw [← z, upd_same] at hp2
      cases hp2
    have np2 : p ≠ p2 := fun z => by
      rw [← z, upd_ne np1, upd_same] at hp2
      cases hp2
    have hp1' : (upd (upd (upd H p (.lst (cutV (ns.map V.int) none (some 6)))) p1 (.lst [.int 7])) p2 (.lst [])) p1 = some (.lst [.int 7]) := by rw [upd_ne n12, upd_same]
    have hp' : (upd (upd (upd H p (.lst (cutV (ns.map V.int) none (some 6)))) p1 (.lst [.int 7])) p2 (.lst [])) p = some (.lst (cutV (ns.map V.int) none (some 6))) := by rw [upd_ne np2, upd_ne np1, upd_same]
    refine ⟨.list (ns.map PyData.int), .list [], .lst (Same.sqL s2 hS) (dps_intD ns), .lst (SqL.of upd_same) .nil, shaped_ints ns, rfl, ?_⟩
    generalize upd (upd (upd H p (.lst (cutV (ns.map V.int) none (some 6)))) p1 (.lst [.int 7])) p2 (.lst []) = G0 at s2 hp1' hp'
    generalize PyData.eqv (.list (ns.map PyData.int)) (.list []) = bb
    have isI : ∀ x ∈ cutV (ns.map V.int) none (some 6), ∃ c : Int, x = .int c := fun x hx => by
      obtain ⟨c, _, rfl⟩ := List.mem_map.mp (List.mem_of_mem_drop (List.mem_of_mem_take hx))
      exact ⟨c, rfl⟩
    have lcut : (cutV (ns.map V.int) none (some 6)).length ≤ 63 := by
      have e := cutV_length (ns.map V.int) none (some 6)
      rw [List.length_map] at e
      omega
    generalize cutV (ns.map V.int) none (some 6) = cs at hp' isI lcut
    refine .inr ⟨bb, rfl, _, hp1', by split <;> decide, by split <;> decide, by have e := sizeLine_eq; split <;> simp <;> omega, fun p3 hp3 => ⟨cs, (upd_ne (ne_of_none hp' hp3)).trans hp', _, upd_same, ?_, fun L hL => ⟨⟨_, SqL.of upd_same⟩, ?_⟩⟩⟩
    · have e := sizeLine_eq
      split <;> simp <;> omega
    have tl : ∀ x ∈ (List.replicate (if bb = true then (1 : Int) else 0).toNat [V.int 7]).flatten, ∃ c : Int, x = .int c := fun x hx => by
      obtain ⟨l, hl, hx⟩ := List.mem_flatten.mp hx
      rw [List.eq_of_mem_replicate hl] at hx
      exact ⟨7, List.mem_singleton.mp hx⟩
    have ll : (List.replicate (if bb = true then (1 : Int) else 0).toNat [V.int 7]).flatten.length ≤ 1 := by
      cases bb <;> decide
    generalize (List.replicate (if bb = true then (1 : Int) else 0).toNat [V.int 7]).flatten = tail at tl ll hL
    have isX : ∀ x ∈ cs ++ tail, ∃ c : Int, x = .int c := fun x hx => by
      rcases List.mem_append.mp hx with hx | hx
      · exact isI x hx
      · exact tl x hx
    have lX : (cs ++ tail).length ≤ 64 := by
      rw [List.length_append]
      omega
    have hL0 : SqA false K (upd (upd G0 p3 (.lst tail)) L (.lst (cs ++ tail))) L (cs ++ tail) := SqL.of upd_same
    generalize upd (upd G0 p3 (.lst tail)) L (.lst (cs ++ tail)) = Gst at hL0
    generalize cs ++ tail = xs at isX lX hL0
    clear isI lcut tl ll hL hp' hp1' s2 hp hp1 hp2 np1 n12 np2 hp3
    -- over the cells
    refine loop_it (walk_enumA (t := false) (xs := xs)) (fun i τ G => Sl20 (.ref a) τ ∧ SqA false K G L xs) ⟨⟨_, _, _, _, _, _, _, _, _, _, _, _, _, rfl⟩, hL0⟩ (fun i τ G _ h => h.2) ?_ (fun τ G h => hM _ _ trivial)
    rintro i x τ G1 G2 hi ⟨⟨u1, u2, u3, u4, u5, u6, u7, u8, u9, u10, u11, u12, u13, rfl⟩, hq⟩ ⟨q, y1, y2, rfl, hqq, rfl, hy1, hy2⟩
    cases hy1
    obtain ⟨c, rfl⟩ := isX y2 (List.mem_of_getElem? hy2)
    walk_at "wp"
    refine ⟨_, SqT.of upd_same, rfl, _, _, rfl, _, _, rfl, rfl, ?_⟩
    have hq2 := sqA_same (same_new (o := .tup [V.int (i : Nat), V.int c]) hqq) hq
    generalize upd G1 q (.tup [V.int (i : Nat), V.int c]) = Gs at hq2
    have lst_len := sqA_or hq2
    refine cut_hide (fun τ G => ∃ pp : Addr, τ = [some (.ref a), some (.int (i : Nat)), some (.int c), some (.ref pp), u4, u5, u6, u7, u8, u9, u10, u11, u12, u13] ∧ Same Gs G ∧ Gs pp = none ∧ Pool G pp) (fun M' hM => ?_) ?_
    · walk_at "wp"
      exact ⟨c, 2000 + (i : Nat), 420, rfl, by omega, by omega, by decide, by decide, fun pp G s1 n1 P1 => hM _ _ ⟨pp, rfl, s1, n1, P1⟩⟩
    rintro τ Gp ⟨pp, rfl, sp, np, PP⟩
    refine cut_hide (fun τ G => ∃ (d : Addr) (g : SPl), τ = [some (.ref a), some (.int (i : Nat)), some (.int c), some (.ref pp), some (.ref d), u5, u6, u7, u8, u9, u10, u11, u12, u13] ∧ Gr pp Gp G ∧ SPlAt K G d g ∧ g.Ok) (fun M' hM => ?_) ?_
    · walk_at "wp"
      exact ⟨by decide, rfl, pp, _, rfl, PP, fun d H1 g g1 nd hd ok => hM _ _ ⟨d, g, rfl, g1, hd, ok⟩⟩
    rintro τ Gd ⟨d, g, rfl, gd, ⟨bv, wa, hd, hb, hw⟩, ok⟩
    have hwd : ∀ {F : Hp}, SqT K F wa (g.ws.map V.str) → Dp K F (.ref wa) (wsD g.ws) := fun h => .tup h (dpAll_strs _)
    refine cut_hide (fun τ G => τ = [some (.ref a), some (.int (i : Nat)), some (.int c), some (.ref pp), some (.ref d), some (.ref wa), some (.int g.size), u7, u8, u9, u10, u11, u12, u13] ∧ G = Gd) (fun M' hM => ?_) ?_
    · walk_at "wp"
      exact ⟨_, .inl ⟨plKV bv wa g.size, .inr "words", .inl hd, rfl, rfl⟩, _, .inl ⟨plKV bv wa g.size, .inr "size", .inl hd, rfl, rfl⟩, hM _ _ ⟨rfl, rfl⟩⟩
    rintro τ G ⟨rfl, rfl⟩
    have sW := ok.wsS
    have sB := ok.blk
    have rpB : Rp g.blk := sB.rp (by decide) (by decide)
    have rpW : Rp (wsD g.ws) := sW.rp (by decide) (by decide)
    refine cut_hide (fun τ F => τ = [some (.ref a), some (.int (i : Nat)), some (.int c), some (.ref pp), some (.ref d), some (.ref wa), some (.int g.size), u7, u8, u9, u10, u11, u12, u13] ∧ Same G F) (fun M' hM => ?_) ?_
    · walk_at "wp"
      refine ⟨_, .inl ⟨plKV bv wa g.size, .inr "block", .inl hd, rfl, rfl⟩, bv, .ref wa, .int g.size, g.blk, wsD g.ws, .int g.size, rfl, ⟨hb, hwd hw, .int _, sB.s, sW.s, rpB, rpW, ok.rpI⟩, fun D F sF nD hD => ⟨by decide, fun q nq => ?_⟩⟩
      rw [heard_made ok] at hD
      have sq := same_new (o := .lst [V.str "made"]) nq
      refine ne_texts (sq _ _ hD) upd_same ⟨false, rfl, ?_⟩
      exact Eq.mpr (if_neg Bool.false_ne_true) (hM _ _ ⟨rfl, sF.trans sq⟩)
    rintro τ F ⟨rfl, sF⟩
    have gF := gd.trans (Gr.ofSame gd.pool sF)
    have hpF : SPlAt K F d g := SPlAt.same sF ⟨bv, wa, hd, hb, hw⟩
    refine cut_hide (fun τ F2 => ∃ v7 v8, τ = [some (.ref a), some (.int (i : Nat)), some (.int c), some (.ref pp), some (.ref d), some (.ref wa), some (.int g.size), v7, v8, u9, u10, u11, u12, u13] ∧ Gr pp F F2) (fun M' hM => ?_) ?_
    · walk_at "wp"
      refine ⟨by decide, by decide, ?_⟩
      refine loop_it (walk_range (lo := 0)) (fun j τ F2 => ∃ v7 v8, τ = [some (.ref a), some (.int (i : Nat)), some (.int c), some (.ref pp), some (.ref d), some (.ref wa), some (.int g.size), v7, v8, u9, u10, u11, u12, u13] ∧ Gr pp F F2) ⟨_, _, rfl, Gr.refl gF.pool⟩ (fun _ _ _ _ _ => True.intro) ?_ ?_
      · rintro j v τ F1 F2 hj ⟨v7, v8, rfl, g1⟩ ⟨rfl, rfl⟩
        walk_at "wp"
        refine cut_hide (fun τ A => ∃ v e, τ = [some (.ref a), some (.int (i : Nat)), some (.int c), some (.ref pp), some (.ref d), some (.ref wa), some (.int g.size), some (.int (j : Nat)), some v, u9, u10, u11, u12, u13] ∧ Gr pp F A ∧ Dp K A v e ∧ Sml 30 (2 ^ 20) e) (fun M2 hM2 => ?_) ?_
        · walk_at "wp"
          exact ⟨pp, d, g, rfl, g1.pool, hpF.gr gF.pool ok g1, ok, fun v e A gA he se => hM2 _ _ ⟨v, e, by simp, g1.trans gA, dp_same del_sub _ _ he, se⟩⟩
        rintro τ A ⟨v, e, rfl, gA, he, se⟩
        have hwA : SqT K A wa (g.ws.map V.str) := gA.tup gF.pool (Same.sqT sF hw)
        have re : Rp e := se.rp (by decide) (Nat.le_refl _)
        walk_at "wp"
        refine ⟨v, .ref wa, .int g.size, e, wsD g.ws, .int g.size, rfl, ⟨he, hwd hwA, .int _, se.s, sW.s, re, rpW, ok.rpI⟩, fun D B sB' nD hD => ?_⟩
        refine ⟨v, e, wa, g.ws, g.size, rfl, dp_same sB' _ _ he, se.s, Nat.le_trans se.dp (by decide), re, Same.sqT sB' hwA, ok.wk, ok.s2, ok.s3, fun D2 B2 sB2 nD2 hD2 => ?_⟩
        rw [heard_ws ok] at hD
        refine ne_texts (sB2 _ _ hD) hD2 ⟨false, rfl, ?_⟩
        exact Eq.mpr (if_neg Bool.false_ne_true) ⟨⟨_, rfl⟩, ⟨_, rfl⟩, gA.trans (Gr.ofSame gA.pool (sB'.trans sB2))⟩
      · rintro τ F2 ⟨v7, v8, rfl, g1⟩
        exact hM _ _ ⟨v7, v8, rfl, g1⟩
    rintro τ F2 ⟨v7, v8, rfl, g2⟩
    have gF2 := gF.trans g2
    have hpF2 := hpF.gr gF.pool ok g2
    refine cut_hide (fun τ F3 => ∃ v9, τ = [some (.ref a), some (.int (i : Nat)), some (.int c), some (.ref pp), some (.ref d), some (.ref wa), some (.int g.size), v7, v8, v9, u10, u11, u12, u13] ∧ Same F2 F3) (fun M' hM => ?_) ?_
    · walk_at "wp"
      refine ⟨by decide, fun p_a n_a => ?_⟩
      have s_a := same_new (o := .tup []) n_a
      have d_a := mk_st (K := K) (vs := []) (ds := []) n_a .nil
      generalize upd F2 p_a (.tup []) = A_a at s_a d_a ⊢
      refine ⟨by decide, fun p_b n_b => ?_⟩
      have s_b := same_new (o := .lst [V.str "x"]) n_b
      have d_b : Dp K (upd A_a p_b (.lst [V.str "x"])) (.ref p_b) (.list [.str "x"]) := .lst (SqL.of upd_same) (.cons (.str _) .nil)
      generalize upd A_a p_b (.lst [V.str "x"]) = A_b at s_b d_b ⊢
      refine ⟨by decide, fun p_c n_c => ?_⟩
      have s_c := same_new (o := .tup [V.str "x", V.str "x"]) n_c
      have d_c := mk_st (K := K) (vs := [V.str "x", V.str "x"]) (ds := [.str "x", .str "x"]) n_c (.cons (.str _) (.cons (.str _) .nil))
      generalize upd A_b p_c (.tup [V.str "x", V.str "x"]) = A_c at s_c d_c ⊢
      refine ⟨by decide, fun p_L n_L => ?_⟩
      have s_L := same_new (o := .lst [V.ref p_a, V.non, V.ref p_b, V.ref p_c, V.str "x"]) n_L
      have e_L : upd A_c p_L (.lst [V.ref p_a, V.non, V.ref p_b, V.ref p_c, V.str "x"]) p_L = some (.lst [V.ref p_a, V.non, V.ref p_b, V.ref p_c, V.str "x"]) := upd_same
      generalize upd A_c p_L (.lst [V.ref p_a, V.non, V.ref p_b, V.ref p_c, V.str "x"]) = A_L at s_L e_L ⊢
      have sAll := ((s_a.trans s_b).trans s_c).trans s_L
      have dL : DpAll K A_L [V.ref p_a, V.non, V.ref p_b, V.ref p_c, V.str "x"] oddR := .cons (dp_same ((s_b.trans s_c).trans s_L) _ _ d_a) (.cons .non (.cons (dp_same (s_c.trans s_L) _ _ d_b) (.cons (dp_same s_L _ _ d_c) (.cons (.str _) .nil))))
      refine ⟨⟨_, SqL.of e_L⟩, ?_⟩
      refine loop_it (walk_list (xs := [V.ref p_a, V.non, V.ref p_b, V.ref p_c, V.str "x"])) (fun j τ F3 => ∃ v9, τ = [some (.ref a), some (.int (i : Nat)), some (.int c), some (.ref pp), some (.ref d), some (.ref wa), some (.int g.size), v7, v8, v9, u10, u11, u12, u13] ∧ Same A_L F3) ⟨_, rfl, Same.refl _⟩ (fun j τ F3 _ h => by obtain ⟨_, _, s⟩ := h; exact SqL.of (s _ _ e_L)) ?_ ?_
      · rintro j v τ F3 F4 hj ⟨v9, rfl, s3⟩ ⟨rfl, hv⟩
        obtain ⟨e, he, hed⟩ := dpAll_get dL hv
        obtain ⟨se, re⟩ := oddR_ok e (List.mem_of_getElem? he)
        have rpe : Rp e := se.rp (by decide) (by decide)
        walk_at "wp"
        refine ⟨.non, v, .non, .none, e, .none, rfl, ⟨.non, dp_same s3 _ _ hed, .non, rfl, se.s, rpN, rpe, rpN⟩, fun D B sB nD hD => ⟨e, .inl (dp_same (s3.trans sB) _ _ hed), rpe, by decide, fun q nq => ?_⟩⟩
        have eh : heardL .none e .none = ([Str.ofString "registers", e.shown] : List Str) := by
          unfold heardL
          rw [if_pos re]
        rw [eh] at hD
        have sq := same_new (o := .lst [V.str "registers", V.str e.shown]) nq
        exact ne_texts (sq _ _ hD) upd_same ⟨false, rfl, Eq.mpr (if_neg Bool.false_ne_true) ⟨⟨_, rfl⟩, (s3.trans sB).trans sq⟩⟩
      · rintro τ F3 ⟨v9, rfl, s3⟩
        exact hM _ _ ⟨v9, rfl, sAll.trans s3⟩
    rintro τ F3 ⟨v9, rfl, s3⟩
    have hw3 : SqT K F3 wa (g.ws.map V.str) := Same.sqT s3 (g2.tup gF.pool (Same.sqT sF hw))
    refine cut_hide (fun τ F4 => ∃ v9, τ = [some (.ref a), some (.int (i : Nat)), some (.int c), some (.ref pp), some (.ref d), some (.ref wa), some (.int g.size), v7, v8, v9, u10, u11, u12, u13] ∧ Same F2 F4) (fun M' hM => ?_) ?_
    · walk_at "wp"
      refine ⟨by decide, fun p_L n_L => ?_⟩
      have s_L := same_new (o := .lst [V.int 1, V.int 4, V.bl true, V.non]) n_L
      have e_L : upd F3 p_L (.lst [V.int 1, V.int 4, V.bl true, V.non]) p_L = some (.lst [V.int 1, V.int 4, V.bl true, V.non]) := upd_same
      generalize upd F3 p_L (.lst [V.int 1, V.int 4, V.bl true, V.non]) = A_L at s_L e_L ⊢
      have dL : DpAll K A_L [V.int 1, V.int 4, V.bl true, V.non] oddN := .cons (.int _) (.cons (.int _) (.cons (.bl _) (.cons .non .nil)))
      refine ⟨⟨_, SqL.of e_L⟩, ?_⟩
      refine loop_it (walk_list (xs := [V.int 1, V.int 4, V.bl true, V.non])) (fun j τ F4 => ∃ v9, τ = [some (.ref a), some (.int (i : Nat)), some (.int c), some (.ref pp), some (.ref d), some (.ref wa), some (.int g.size), v7, v8, v9, u10, u11, u12, u13] ∧ Same A_L F4) ⟨_, rfl, Same.refl _⟩ (fun j τ F4 _ h => by obtain ⟨_, _, s⟩ := h; exact SqL.of (s _ _ e_L)) ?_ ?_
      · rintro j v τ F4 F5 hj ⟨v9, rfl, s4⟩ ⟨rfl, hv⟩
        obtain ⟨e, he, hed⟩ := dpAll_get dL hv
        obtain ⟨se, re⟩ := oddN_ok e (List.mem_of_getElem? he)
        have rpe : Rp e := se.rp (by decide) (by decide)
        walk_at "wp"
        refine ⟨.non, .ref wa, v, .none, wsD g.ws, e, rfl, ⟨.non, hwd (Same.sqT (s_L.trans s4) hw3), dp_same s4 _ _ hed, rfl, sW.s, rpN, rpW, rpe⟩, fun D B sB nD hD => ⟨e, .inl (dp_same (s4.trans sB) _ _ hed), rpe, by decide, fun q nq => ?_⟩⟩
        have eh : heardL .none (wsD g.ws) e = ([Str.ofString "number", e.shown] : List Str) := by
          unfold heardL
          rw [if_neg (by rw [ok.regs]; exact Bool.noConfusion), if_pos re]
        rw [eh] at hD
        have sq := same_new (o := .lst [V.str "number", V.str e.shown]) nq
        exact ne_texts (sq _ _ hD) upd_same ⟨false, rfl, Eq.mpr (if_neg Bool.false_ne_true) ⟨⟨_, rfl⟩, (s4.trans sB).trans sq⟩⟩
      · rintro τ F4 ⟨v9, rfl, s4⟩
        exact hM _ _ ⟨v9, rfl, (s3.trans s_L).trans s4⟩
    clear hw3 s3 v9
    rintro τ F4 ⟨v9, rfl, s4⟩
    have g4 := gF2.trans (Gr.ofSame gF2.pool s4)
    have hpF4 := SPlAt.same s4 hpF2
    refine cut_hide (fun τ F5 => ∃ o h, τ = [some (.ref a), some (.int (i : Nat)), some (.int c), some (.ref pp), some (.ref d), some (.ref wa), some (.int g.size), v7, v8, v9, some (.ref o), u11, u12, u13] ∧ Gr pp F4 F5 ∧ SPlAt K F5 o h ∧ h.Ok) (fun M' hM => ?_) ?_
    · walk_at "wp"
      exact ⟨pp, true, rfl, g4.pool, fun o F5 h g5 no ho okh => hM _ _ ⟨o, h, rfl, g5, ho, okh⟩⟩
    rintro τ F5 ⟨o, h, rfl, g5, hph, okh⟩
    have gAll := g4.trans g5
    have hpF5 := hpF4.gr g4.pool ok g5
    have hw5 : SqT K F5 wa (g.ws.map V.str) := g5.tup g4.pool (Same.sqT s4 (g2.tup gF.pool (Same.sqT sF hw)))
    clear hpF hpF2 hpF4 hb hw hd
    obtain ⟨b5, wa5, hd5, hb5, hwa5⟩ := hpF5
    obtain ⟨b6, wa6, hd6, hb6, hwa6⟩ := hph
    /- a source made of a plan -/
    have mkS : ∀ {F : Hp} {bv : V} {wb : Addr} {e : SPl} {P' : Addr → Hp → Prop}, e.Ok → Dp K F bv e.blk → SqT K F wb (e.ws.map V.str) → (∀ x G, Same F G → SrcAt K CS CP G x e.blk (srcP e.ws e.size e.blk) → (srcP e.ws e.size e.blk).Ok → P' x G) → ∀ x dx, F x = none → F dx = none → dx ≠ x → spSrc K CS CP cR cN cB (gCat [V.ref x, bv] [V.ref wb, V.int e.size]) (upd (upd F dx (.own x)) x (.ins CS dx [])) (fun v H3 => v = .non ∧ P' x H3) E0 := fun {F bv wb e P'} oe hb hw q x dx hx hdx hne => by
      have s0 : Same F (upd (upd F dx (.own x)) x (.ins CS dx [])) := same_mut (same_new hdx) hx
      have er : strsOf (wsD e.ws) = e.ws := strsOf_map e.ws
      have hwS : ∀ z ∈ e.ws, wordS z = true := fun z hz => word_B (oe.wk.all z hz)
      refine ⟨x, dx, bv, .ref wb, .int e.size, e.blk, wsD e.ws, .int e.size, rfl, upd_same, dp_same s0 _ _ hb, oe.blk.s, .tup (Same.sqT s0 hw) (dpAll_strs _), oe.wsS.s, .int _, fun e1 => ?_, fun _ e2 => ?_, fun _ _ e3 => ?_, fun _ _ e3 G ex hs => ⟨rfl, ?_⟩⟩
      · rw [oe.regs] at e1
        cases e1
      · rw [oe.btw] at e2
        cases e2
      · rw [er] at e3
        have := oe.ok
        rw [show okB e.ws (intOf (.int e.size)) e.blk = true from this] at e3
        cases e3
      · rw [er] at hs
        obtain ⟨okp, _⟩ := src_ok (rs := e.ws) (size := e.size) (d := e.blk) oe.regs oe.wsS.s oe.s2 oe.s3 oe.ok
        refine q x G (fun b ob hb => ?_) hs okp
        refine ex b ob (fun z => ?_) (s0 b ob hb)
        rw [z, hx] at hb
        cases hb
    refine cut_hide (fun τ F6 => ∃ x1, τ = [some (.ref a), some (.int (i : Nat)), some (.int c), some (.ref pp), some (.ref d), some (.ref wa), some (.int g.size), v7, v8, v9, some (.ref o), some (.ref x1), some b6, u13] ∧ Same F5 F6 ∧ SrcAt K CS CP F6 x1 g.blk (srcP g.ws g.size g.blk) ∧ (srcP g.ws g.size g.blk).Ok) (fun M' hM => ?_) ?_
    · walk_at "wp"
      refine ⟨_, .inl ⟨plKV b5 wa5 g.size, .inr "block", .inl hd5, rfl, rfl⟩, mkS ok hb5 hw5 fun x G s hs okp => ?_⟩
      exact ⟨_, .inl ⟨plKV b6 wa6 h.size, .inr "block", .inl (s _ _ hd6), rfl, rfl⟩, hM _ _ ⟨x, rfl, s, hs, okp⟩⟩
    rintro τ F6 ⟨x1, rfl, s6, hx1, okp1⟩
    refine cut_hide (fun τ F7 => ∃ x2, τ = [some (.ref a), some (.int (i : Nat)), some (.int c), some (.ref pp), some (.ref d), some (.ref wa), some (.int g.size), v7, v8, v9, some (.ref o), some (.ref x1), some b6, some (.ref x2)] ∧ Same F6 F7 ∧ SrcAt K CS CP F7 x2 h.blk (srcP h.ws h.size h.blk) ∧ (srcP h.ws h.size h.blk).Ok) (fun M' hM => ?_) ?_
    · walk_at "wp"
      refine ⟨_, .inl ⟨plKV b6 wa6 h.size, .inr "words", .inl (s6 _ _ hd6), rfl, rfl⟩, _, .inl ⟨plKV b6 wa6 h.size, .inr "size", .inl (s6 _ _ hd6), rfl, rfl⟩, mkS okh (dp_same s6 _ _ hb6) (Same.sqT s6 hwa6) fun x G s hs okp => hM _ _ ⟨x, rfl, s, hs, okp⟩⟩
    rintro τ F7 ⟨x2, rfl, s7, hx2, okp2⟩
    have s67 := s6.trans s7
    have hx1' := hx1.same s7
    have shG : SeqAt.shaped g.blk = true := sm_shaped ok.blk.s (Nat.le_trans ok.blk.dp (by decide))
    have shH : SeqAt.shaped h.blk = true := sm_shaped okh.blk.s (Nat.le_trans okh.blk.dp (by decide))
    have hd7 := s67 _ _ hd5
    have hd8 := s67 _ _ hd6
    obtain ⟨di1, _, _, hi1, _⟩ := id hx1'
    obtain ⟨di2, _, _, hi2, _⟩ := id hx2
    have sWh := okh.wsS
    have shW : SeqAt.shaped (wsD g.ws) = true := sm_shaped sW.s (Nat.le_trans sW.dp (by decide))
    have shV : SeqAt.shaped (wsD h.ws) = true := sm_shaped sWh.s (Nat.le_trans sWh.dp (by decide))
    walk_at "wp"
    refine ⟨⟨_, _, hi1⟩, .inl ⟨_, _, _, rfl, hi2⟩, x1, x2, g.blk, h.blk, _, _, rfl, hx1', hx2, shG, shH, okp1, okp2, _, rfl, _, hd7, _, hd8, rfl, _, .hit rfl (dp_same s67 _ _ hb5) (dp_same s67 _ _ hb6) shG shH (.hit rfl (.tup (Same.sqT s67 hwa5) (dpAll_strs _)) (.tup (Same.sqT s67 hwa6) (dpAll_strs _)) shW shV (.hit rfl (.int _) (.int _) rfl rfl .nil)), rfl, ?_⟩
    have er : srcEq g.blk h.blk (srcP g.ws g.size g.blk) (srcP h.ws h.size h.blk) = (PyData.eqv g.blk h.blk && (PyData.eqv (wsD g.ws) (wsD h.ws) && (PyData.eqv (.int g.size) (.int h.size) && true))) := by
      rw [Bool.and_true]
      rfl
    refine Eq.mpr (if_pos er) ?_
    refine ⟨_, .inl ⟨plKV b5 wa5 g.size, .inr "block", .inl hd7, rfl, rfl⟩, mkS ok (dp_same s67 _ _ hb5) (Same.sqT s67 hw5) fun x3 G s8 hx3 okp3 => ?_⟩
    obtain ⟨di3, _, _, hi3, _⟩ := id hx3
    refine ⟨⟨_, _, s8 _ _ hi1⟩, .inl ⟨_, _, _, rfl, hi3⟩, x1, x3, g.blk, g.blk, _, _, rfl, hx1'.same s8, hx3, shG, shG, okp1, okp3, _, rfl, ?_⟩
    have e1 : srcEq g.blk g.blk (srcP g.ws g.size g.blk) (srcP g.ws g.size g.blk) = true := by
      unfold srcEq
      rw [SeqAt.eqv_refl _ (SeqAt.canLay_of_shaped shG), SeqAt.eqv_refl _ (SeqAt.canLay_of_shaped (show SeqAt.shaped (.tuple ((srcP g.ws g.size g.blk).ws.map PyData.str)) = true from shW)), decide_eq_true rfl]
      rfl
    rw [e1]
    refine Eq.mpr (if_neg (by decide)) ⟨⟨_, _, _, _, _, _, _, _, _, _, _, _, _, rfl⟩, ?_⟩
    have gend := gAll.trans (Gr.ofSame gAll.pool (s67.trans s8))
    exact sqA_same (same_gr np sp gend) hq2
end

end YY

set_option maxRecDepth 100000
set_option maxHeartbeats 4000000
namespace YY
open PySem PySem.Spec PyProof.Rows L2 XX
/-! ### the end: what the top has written -/
theorem sqT_K {K : PySem.W.Frag} {a : Addr} {dd : Option Addr} {its : Array Value} {n : Nat} {sl : Array (Option Value)} {zs : List Str} (l : K.lookup a = some ⟨.type "tuple", dd, .seq its n, sl⟩) (hv : Vals (zs.map V.str) its.toList) (hz : zs.length ≤ 100) (H : Hp) : SqT K H a (zs.map V.str) := by
  refine .inr ⟨_, its, n, l, rfl, rfl, ?_, hv⟩
  have e := hv.length
  rw [List.length_map] at e
  have e2 := sizeLine_eq
  rw [← Array.length_toList, ← e]
  omega
theorem exm_of {K : PySem.W.Frag} {S C : Addr} {b : Bool} (h1 : PySem.W.subIn K (.ref C) (.type "BaseException") = some true) (h2 : PySem.W.isClsIn K C = true) (h3 : PySem.W.typeIn K (.ref C) = some (.type "type")) (h4 : PySem.W.subIn K (.ref S) (.ref C) = some b) : PySem.W.exmOne K (.ref S) (.ref C) = some b := by
  have e1 : (PySem.W.subIn K (.ref C) (.type "BaseException") == some true) = true := by rw [h1]; rfl
  have e2 : ((PySem.W.clsIn K C).isSome && PySem.W.typeIn K (.ref C) == some (.type "type")) = true := by
    have e3 : (PySem.W.clsIn K C).isSome = true := h2
    rw [e3, h3]
    rfl
  unfold PySem.W.exmOne
  rw [if_pos e1]
  show (if ((PySem.W.clsIn K C).isSome && PySem.W.typeIn K (.ref C) == some (.type "type")) = true then PySem.W.subIn K (.ref S) (.ref C) else none) = some b
  rw [if_pos e2]
  exact h4
/-- of an error class: what stands there -/
theorem err_mk {K : PySem.W.Frag} {h : Heap} {mg : Str → Option Value} {x : Str} {C fI : Addr} {nm q : Str} {N : Addr} {bs bm : List Value} {sn : List Str} {sub : List Value} {ab : Bool} {col : Option Bool} {dd : Option Addr} {m0 m1 m2 m3 m5 : Option Value} (X : K.In h) (G : h.Ns mainGlobals mg)
    (aC : PySem.W.nsIn K mainGlobals x = some (some (.ref C))) (xL : K.lookup C = some (excClassObj nm q C N bs bm true sn sub ab col dd m0 m1 m2 m3 m5 "ValueError.__new__")) (bmr : PySem.HandSPX.refsVE bm = true)
    (sa : PySem.W.findIn K (.ref C) "__setattr__" = some (some (.builtin "object.__setattr__"))) (ga : PySem.W.findIn K (.ref C) "__getattribute__" = some (some (.builtin "BaseException.__getattribute__"))) (gg : PySem.W.findIn K (.ref C) "__getattr__" = some none)
    (no : PySem.W.findIn K (.ref C) "value" = some none) (ini : PySem.W.findIn K (.ref C) "__init__" = some (some (.ref fI))) (tI : PySem.W.typeIn K (.ref fI) = some (.type "function")) (kC : PySem.W.keepIn K (.ref C) = true)
    (eC : PySem.W.subIn K (.ref C) (.type "BaseException") = some true) (tC : PySem.W.typeIn K (.ref C) = some (.type "type")) (hC : PySem.W.hasDictIn K C = true) : ErrC K mg x C fI :=
  ⟨PySem.W.mg_of X G aC, ⟨⟨nm, q, N, bs, bm, sn, sub, ab, col, dd, m0, m1, m2, m3, m5, xL, bmr⟩, sa, eC, tC, kC⟩, ⟨ga, gg, eC, hC⟩, ini, tI, no⟩
/-- the written dict of the forms -/
theorem forms_mk {K : PySem.W.Frag} {w : World} {h : Heap} {mg : Str → Option Value} {fo : Addr} {n : Nat} {h1 h2 h3 h4 h5 h6 h7 h8 h9 h10 h11 : Int} {t1 t2 t3 t4 t5 t6 t7 t8 t9 t10 t11 : Tok} {a1 a2 a3 a4 a5 a6 a7 a8 a9 a10 a11 : Addr} (X : K.In h) (G : h.Ns mainGlobals mg)
    (aF : PySem.W.nsIn K mainGlobals "FORMS" = some (some (.ref fo))) (l : K.lookup fo = some ⟨.type "dict", none, .dict #[(⟨h1, .str "set" t1, .ref a1⟩ : DictEntry), ⟨h2, .str "copy" t2, .ref a2⟩, ⟨h3, .str "take" t3, .ref a3⟩, ⟨h4, .str "if" t4, .ref a4⟩, ⟨h5, .str "go" t5, .ref a5⟩, ⟨h6, .str "group" t6, .ref a6⟩, ⟨h7, .str "meet" t7, .ref a7⟩, ⟨h8, .str "any" t8, .ref a8⟩, ⟨h9, .str "all" t9, .ref a9⟩, ⟨h10, .str "same" t10, .ref a10⟩, ⟨h11, .str "end" t11, .ref a11⟩] n, #[]⟩)
    (lit : PySem.W.KeysLit w.params (Array.toList #[(⟨h1, .str "set" t1, .ref a1⟩ : DictEntry), ⟨h2, .str "copy" t2, .ref a2⟩, ⟨h3, .str "take" t3, .ref a3⟩, ⟨h4, .str "if" t4, .ref a4⟩, ⟨h5, .str "go" t5, .ref a5⟩, ⟨h6, .str "group" t6, .ref a6⟩, ⟨h7, .str "meet" t7, .ref a7⟩, ⟨h8, .str "any" t8, .ref a8⟩, ⟨h9, .str "all" t9, .ref a9⟩, ⟨h10, .str "same" t10, .ref a10⟩, ⟨h11, .str "end" t11, .ref a11⟩])) (low : (fo == sysModules) = false)
    (s1 : ∀ H, SqT K H a1 ((["place", "value"] : List Str).map V.str))
    (s2 : ∀ H, SqT K H a2 ((["place", "place"] : List Str).map V.str))
    (s3 : ∀ H, SqT K H a3 ((["place"] : List Str).map V.str))
    (s4 : ∀ H, SqT K H a4 ((["place", "value", "to", "to"] : List Str).map V.str))
    (s5 : ∀ H, SqT K H a5 ((["to"] : List Str).map V.str))
    (s6 : ∀ H, SqT K H a6 ((["word", "anchor"] : List Str).map V.str))
    (s7 : ∀ H, SqT K H a7 ((["word"] : List Str).map V.str))
    (s8 : ∀ H, SqT K H a8 ((["place", "value", "place"] : List Str).map V.str))
    (s9 : ∀ H, SqT K H a9 ((["place", "value", "place"] : List Str).map V.str))
    (s10 : ∀ H, SqT K H a10 ((["place", "place"] : List Str).map V.str))
    (s11 : ∀ H, SqT K H a11 (([] : List Str).map V.str))
    : FormsOk K w mg fo #[(⟨h1, .str "set" t1, .ref a1⟩ : DictEntry), ⟨h2, .str "copy" t2, .ref a2⟩, ⟨h3, .str "take" t3, .ref a3⟩, ⟨h4, .str "if" t4, .ref a4⟩, ⟨h5, .str "go" t5, .ref a5⟩, ⟨h6, .str "group" t6, .ref a6⟩, ⟨h7, .str "meet" t7, .ref a7⟩, ⟨h8, .str "any" t8, .ref a8⟩, ⟨h9, .str "all" t9, .ref a9⟩, ⟨h10, .str "same" t10, .ref a10⟩, ⟨h11, .str "end" t11, .ref a11⟩] n := by
  have lk : ∀ z : Str, PySem.W.nsIn K fo z = (match (Array.toList #[(⟨h1, .str "set" t1, .ref a1⟩ : DictEntry), ⟨h2, .str "copy" t2, .ref a2⟩, ⟨h3, .str "take" t3, .ref a3⟩, ⟨h4, .str "if" t4, .ref a4⟩, ⟨h5, .str "go" t5, .ref a5⟩, ⟨h6, .str "group" t6, .ref a6⟩, ⟨h7, .str "meet" t7, .ref a7⟩, ⟨h8, .str "any" t8, .ref a8⟩, ⟨h9, .str "all" t9, .ref a9⟩, ⟨h10, .str "same" t10, .ref a10⟩, ⟨h11, .str "end" t11, .ref a11⟩]).find? (·.key.isStr z) with
      | some e => some (some e.val)
      | none => if (Array.toList #[(⟨h1, .str "set" t1, .ref a1⟩ : DictEntry), ⟨h2, .str "copy" t2, .ref a2⟩, ⟨h3, .str "take" t3, .ref a3⟩, ⟨h4, .str "if" t4, .ref a4⟩, ⟨h5, .str "go" t5, .ref a5⟩, ⟨h6, .str "group" t6, .ref a6⟩, ⟨h7, .str "meet" t7, .ref a7⟩, ⟨h8, .str "any" t8, .ref a8⟩, ⟨h9, .str "all" t9, .ref a9⟩, ⟨h10, .str "same" t10, .ref a10⟩, ⟨h11, .str "end" t11, .ref a11⟩]).any (·.refKey) then none else some none) := fun z => by
    unfold PySem.W.nsIn
    rw [l]
    rfl
  refine ⟨PySem.W.mg_of X G aF, ⟨l, lit, low⟩, fun z ns hz => ?_, fun z hz => ?_⟩
  · by_cases c0 : z = "set"
    · subst c0
      cases (show some (["place", "value"] : List Str) = some ns from hz)
      exact ⟨a1, (lk _).trans rfl, s1⟩
    by_cases c1 : z = "copy"
    · subst c1
      cases (show some (["place", "place"] : List Str) = some ns from hz)
      exact ⟨a2, (lk _).trans rfl, s2⟩
    by_cases c2 : z = "take"
    · subst c2
      cases (show some (["place"] : List Str) = some ns from hz)
      exact ⟨a3, (lk _).trans rfl, s3⟩
    by_cases c3 : z = "if"
    · subst c3
      cases (show some (["place", "value", "to", "to"] : List Str) = some ns from hz)
      exact ⟨a4, (lk _).trans rfl, s4⟩
    by_cases c4 : z = "go"
    · subst c4
      cases (show some (["to"] : List Str) = some ns from hz)
      exact ⟨a5, (lk _).trans rfl, s5⟩
    by_cases c5 : z = "group"
    · subst c5
      cases (show some (["word", "anchor"] : List Str) = some ns from hz)
      exact ⟨a6, (lk _).trans rfl, s6⟩
    by_cases c6 : z = "meet"
    · subst c6
      cases (show some (["word"] : List Str) = some ns from hz)
      exact ⟨a7, (lk _).trans rfl, s7⟩
    by_cases c7 : z = "any"
    · subst c7
      cases (show some (["place", "value", "place"] : List Str) = some ns from hz)
      exact ⟨a8, (lk _).trans rfl, s8⟩
    by_cases c8 : z = "all"
    · subst c8
      cases (show some (["place", "value", "place"] : List Str) = some ns from hz)
      exact ⟨a9, (lk _).trans rfl, s9⟩
    by_cases c9 : z = "same"
    · subst c9
      cases (show some (["place", "place"] : List Str) = some ns from hz)
      exact ⟨a10, (lk _).trans rfl, s10⟩
    by_cases c10 : z = "end"
    · subst c10
      cases (show some ([] : List Str) = some ns from hz)
      exact ⟨a11, (lk _).trans rfl, s11⟩
    have b : ∀ k : Str, z ≠ k → (k == z) = false := fun k h => beq_false_of_ne (Ne.symm h)
    unfold formOf formTab at hz
    simp only [List.find?_cons, List.find?_nil, b _ c0, b _ c1, b _ c2, b _ c3, b _ c4, b _ c5, b _ c6, b _ c7, b _ c8, b _ c9, b _ c10, Option.map_none] at hz
    cases hz
  · have c0 : z ≠ "set" := fun e => by
      subst e
      cases hz
    have c1 : z ≠ "copy" := fun e => by
      subst e
      cases hz
    have c2 : z ≠ "take" := fun e => by
      subst e
      cases hz
    have c3 : z ≠ "if" := fun e => by
      subst e
      cases hz
    have c4 : z ≠ "go" := fun e => by
      subst e
      cases hz
    have c5 : z ≠ "group" := fun e => by
      subst e
      cases hz
    have c6 : z ≠ "meet" := fun e => by
      subst e
      cases hz
    have c7 : z ≠ "any" := fun e => by
      subst e
      cases hz
    have c8 : z ≠ "all" := fun e => by
      subst e
      cases hz
    have c9 : z ≠ "same" := fun e => by
      subst e
      cases hz
    have c10 : z ≠ "end" := fun e => by
      subst e
      cases hz
    have b : ∀ k : Str, z ≠ k → (k == z) = false := fun k h => beq_false_of_ne (Ne.symm h)
    rw [lk z]
    have e : (Array.toList #[(⟨h1, .str "set" t1, .ref a1⟩ : DictEntry), ⟨h2, .str "copy" t2, .ref a2⟩, ⟨h3, .str "take" t3, .ref a3⟩, ⟨h4, .str "if" t4, .ref a4⟩, ⟨h5, .str "go" t5, .ref a5⟩, ⟨h6, .str "group" t6, .ref a6⟩, ⟨h7, .str "meet" t7, .ref a7⟩, ⟨h8, .str "any" t8, .ref a8⟩, ⟨h9, .str "all" t9, .ref a9⟩, ⟨h10, .str "same" t10, .ref a10⟩, ⟨h11, .str "end" t11, .ref a11⟩]).find? (·.key.isStr z) = none := by
      simp only [Array.toList, List.find?_cons, List.find?_nil, Value.isStr, b _ c0, b _ c1, b _ c2, b _ c3, b _ c4, b _ c5, b _ c6, b _ c7, b _ c8, b _ c9, b _ c10]
    rw [e]
    rfl
end YY

set_option maxRecDepth 100000
set_option maxHeartbeats 4000000
namespace YY
open PySem PySem.Spec PyProof.Rows L2 XX
local macro_rules | `(tactic| walk_at "wp") => `(tactic| simp only [Int.zero_add, L2.start, LcEnd, List.append_nil, List.cons.injEq, List.cons_append, List.getElem?_cons_succ, List.getElem?_cons_zero, List.length_cons, List.length_nil, List.map_cons, List.map_nil, List.nil_append, List.replicate, List.replicate_succ, List.replicate_zero, List.set_cons_succ, List.set_cons_zero, Nat.reduceAdd, Nat.reduceSub, Option.some.injEq, StX.tMakeR, StX.tStar, V.bl.injEq, V.int.injEq, V.ref.injEq, V.str.injEq, V.ty.injEq, WE, and_assoc, and_false, and_true, bool_ite_false, bool_ite_true, cxOf_K, cxOf_noxK, dec_ite, decide_eq_true_eq, exists_and_left, exists_and_right, exists_const, exists_eq_left, exists_eq_left', false_and, false_or, gCons, gName, gNil, gSub, gTup, iEnumA, iItems, iKeys, iList, iRng1, iRng2, iStr, iTup, iZipB, ite_false, ite_true, ndec_ite, or_false, rAppend, rCat, rCatT, rEq, rEqI, rEqK, rEqV, rExt2, rI, rI0, rIn, rInRg, rIndex, rIsD, rIsE, rIsE2, rIxD, rIxL, rIxS, rIxT, rLenI, rLenK, rListStr, rMax, rMaxDef, rSetIM, rEqT, sFldAug, rAdd, rMin, rMulS, rNe, rNeDA, rNeV, rRange1, rRep, rRepA, rReprE, rReprI, rSetD, rSetI, rSetL, rSlL, rSlT, rSortedSet, rU, reduceCtorEq, reduceIte, sFld, tAnd, tAndV, tAsg, tAug, tB, tBM, tBM0, tC, tCB, tCKw, tDGetT, tCall, tCallS, tChain, tCons, tDGet, tDIn, tDNewK, tDNotIn, tDcT_eq, tDc_eq, tDisp, tDrop, tErr, tFld, tFor_eq, tIf, tIfS, tIxI, tLc2_eq, tLc_eq, tLenSetS, tLock, tLockE, tLst, tLstRg, tM1, tMakeRS, tMakeS, tMakeV, tMakeVS, tMeth, tMethX, tMkO, tMulA, tMulD, tNext, tNil, tNoPart, tNot, tNotV, tOp, tOpI, tOpR, tOr, tOrV, tOst, tPairs, tPar, tPar3, tPart, tRet, tRetN, tRevT, tRg2, tSMeth, tSeq, tSl, tTest, tTup, tUn, tVar, tVeI, tXf, tYes, true_and, wAs, wMA, wipe, rSum])
set_option autoImplicit false
/-- of an error class, what the clauses ask -/
structure ErrX (K : PySem.W.Frag) (C : Addr) : Prop where
  e : PySem.W.subIn K (.ref C) (.type "BaseException") = some true
  i : PySem.W.isClsIn K C = true
  t : PySem.W.typeIn K (.ref C) = some (.type "type")
theorem exmX {K : PySem.W.Frag} {S C : Addr} {b : Bool} (X : ErrX K C) (h4 : PySem.W.subIn K (.ref S) (.ref C) = some b) : PySem.W.exmOne K (.ref S) (.ref C) = some b := exm_of X.e X.i X.t h4
theorem c_none {P : Program} {w : World} {K : PySem.W.Frag} {mg : Str → Option Value} {base : Heap} {k : Nat} {x : Str} {st : Stmt} {N ps : List Str} (D : Def K mg x st ps) (S : FnScope N ps (defScope st)) : FnC P w K mg base CX0 (k + 1) x ps (fun _ _ _ _ => False) := D.ok S (fun _ _ _ _ h => h.elim) fun _ _ _ _ _ _ _ _ _ _ h => h.elim
/-- the defs of the text, each under its name -/
structure Defs (K : PySem.W.Frag) (mg : Str → Option Value) : Prop where
  d_is_between : Def K mg "is_between" sIsBetween ["value", "least", "most"]
  d_is_word : Def K mg "is_word" sIsWord ["value"]
  d_are_registers : Def K mg "are_registers" sAreRegs ["value"]
  d_is_row : Def K mg "is_row" sIsRow ["row", "registers", "size", "end"]
  d__is_part : Def K mg "_is_part" sIsPart ["part", "name", "registers", "size", "end"]
  d_is_block : Def K mg "is_block" sIsBlock ["value", "registers", "size"]
  d__count_block : Def K mg "_count_block" sCountB ["value", "form", "levels", "in_loop"]
  d__count_statement : Def K mg "_count_statement" sCountS ["value", "form", "levels", "in_loop"]
  d__is_plain_row : Def K mg "_is_plain_row" sPlainRow ["value", "form"]
  d_many_rows : Def K mg "many_rows" sManyR ["block"]
  d_rows_of : Def K mg "rows_of" sRowsOf ["statement"]
  d_lowered_rows : Def K mg "lowered_rows" sLowered ["block"]
  d__write_block : Def K mg "_write_block" sWriteB ["rows", "block", "loop", "behind"]
  d__write_if : Def K mg "_write_if" sWriteIf ["rows", "statement", "loop", "behind"]
  d__write_while : Def K mg "_write_while" sWriteWh ["rows", "statement"]
  d__law_numbers : Def K mg "_law_numbers" sNumbers ["cell", "salt", "sizes"]
  d__law_pool : Def K mg "_law_pool" sPool ["cell", "salt", "many"]
  d__law_draw : Def K mg "_law_draw" sDraw ["pool", "many"]
  d__law_pick : Def K mg "_law_pick" sPick ["pool", "some"]
  d__law_words : Def K mg "_law_words" sWords ["pool"]
  d__law_statement : Def K mg "_law_statement" sLStmt ["pool", "words", "size", "deep", "inside", "kinds"]
  d__law_block : Def K mg "_law_block" sLBlock ["pool", "words", "size", "deep", "inside", "kinds"]
  d__law_block_size : Def K mg "_law_block_size" sLSize ["block"]
  d__law_source_plan : Def K mg "_law_source_plan" sLSPlan ["pool", "plain"]
  d__law_whole : Def K mg "_law_whole" sLWhole ["value", "size"]
  d__law_is_word : Def K mg "_law_is_word" sLWord ["value"]
  d__law_parts_good : Def K mg "_law_parts_good" sLParts ["one", "words", "size"]
  d__law_good : Def K mg "_law_good" sLGood ["block", "words", "size", "deep", "inside"]
  d__law_due : Def K mg "_law_due" sLDue ["block", "words", "size"]
  d__law_heard : Def K mg "_law_heard" sLHeard ["block", "words", "size"]
  d__law_bent : Def K mg "_law_bent" sLBent ["pool", "plan"]
structure MProg (K : PySem.W.Frag) (C : Addr) : Prop where
  m_classes : DefM K C "classes" "Program.classes" sCls ["self"]
  m_changed_at : DefM K C "_changed_at" "Program._changed_at" sChg ["self", "place"]
theorem methd_mk {K : PySem.W.Frag} {C f : Addr} {m q : Str} {st : Stmt} {ps : List Str} {oc : Value} {od an : Option Addr} {osl : Array (Option Value)} {kV dc pm cd ct : Value} (a : PySem.W.findIn K (.ref C) m = some (some (.ref f))) (i : PySem.W.isFn K (.ref f) = true) (kp : PySem.W.keepIn K (.ref f) = true)
    (l : K.lookup f = some ⟨oc, od, .func (PySem.W.fnOf m q (defArgs st) (defBody st) (defScope st) .none kV dc pm an cd ct), osl⟩) (c : PySem.W.codeIn K cd q = true)
    (hb : ∀ (kV doc pm : Value) (an : Option Addr) (cdv ct : Value) (us : List Value), us.length = ps.length → bindArgs (PySem.W.fnOf m q (defArgs st) (defBody st) (defScope st) .none kV doc pm an cdv ct) ⟨us, []⟩ = pure (ps.zip us)) : DefM K C m q st ps :=
  ⟨f, _, fun_mk l c kp, ⟨a, i, kp⟩, (fun_mk l c kp).binds hb⟩
structure ProgX (K : PySem.W.Frag) (mg : Str → Option Value) (C fP : Addr) (fdP : FuncData) : Prop where
  gP : mg "Program" = some (.ref C)
  mkk : Mk K C fP
  pc : ProgC K C
  fp : FunD K "__init__" "Program.__init__" (defArgs sProgInit) (defBody sProgInit) (defScope sProgInit) [] [("values", .int 2)] fP fdP
  ic : IsC K C
structure Cons (mg : Str → Option Value) : Prop where
  gL : ∃ k1, mg "LETTERS" = some (.str abc k1)
  gM : ∃ k2, mg "MOST_LETTERS" = some (.int 8 k2)
  gR : ∃ k3, mg "MOST_ROWS" = some (.int 24 k3)
  gE : ∃ k4, mg "_MESSAGE" = some (.str "the attribute value tells what this is about" k4)
  gNe : ∃ k5, mg "MOST_NESTED" = some (.int 3 k5)
/-- a tuple of texts of the module -/
def Tup (K : PySem.W.Frag) (mg : Str → Option Value) (x : Str) (zs : List Str) : Prop := ∃ a, mg x = some (.ref a) ∧ ∀ H, SqT K H a (zs.map V.str)
structure Tups (K : PySem.W.Frag) (mg : Str → Option Value) : Prop where
  Pl : Tup K mg "PLAIN" ["set", "copy", "take", "meet", "any", "all", "same"]
structure SrcX (K : PySem.W.Frag) (mg : Str → Option Value) (C f : Addr) (fd : FuncData) : Prop where
  gS : mg "Source" = some (.ref C)
  mkk : Mk K C f
  sc : SrcC K C
  fp : FunD K "__init__" "Source.__init__" (defArgs sSInit) (defBody sSInit) (defScope sSInit) [] [("values", .int 2)] f fd
  ic : IsC K C
  nf : PySem.W.notFirst K C (.type "tuple") = true
  ne : PySem.W.findIn K (.ref C) "__ne__" = some (some (.builtin "object.__ne__"))
  ob : PySem.W.subIn K (.ref C) (.type "object") = some true
structure MSrc (K : PySem.W.Frag) (C : Addr) : Prop where
  m_eq : DefM K C "__eq__" "Source.__eq__" sSEq ["self", "other"]
/-- what the package's text gives -/
structure Env (K : PySem.W.Frag) (w : World) (mg : Str → Option Value) : Prop where
  D : Defs K mg
  B : Bl4 mg
  n_sum : mg "sum" = none
  FO : ∃ fo es n, FormsOk K w mg fo es n
  CO : Cons mg
  nV : mg "ValueError" = none
  vV : PySem.W.findCls K (.type "ValueError") (.type "type") "__init__" = some (.val (.builtin "ValueError.__init__"))
  ER : ∃ fI fdI cR cN cW cB cK, L2.Fun K "__init__" "LanesError.__init__" sErrInit fI fdI ∧ Errs K mg fI cR cN cW cB ∧ ErrC K mg "BadBlock" cK fI ∧ PySem.W.exmOne K (.ref cR) (.ref cR) = some true ∧ PySem.W.exmOne K (.ref cN) (.ref cR) = some false ∧ PySem.W.exmOne K (.ref cN) (.ref cN) = some true ∧ PySem.W.exmOne K (.ref cK) (.ref cR) = some false ∧ PySem.W.exmOne K (.ref cK) (.ref cN) = some false ∧ PySem.W.exmOne K (.ref cK) (.ref cK) = some true
  TU : Tups K mg
  PX : ∃ C fP fdP, ProgX K mg C fP fdP ∧ MProg K C
  TP : ∃ fo es n, TabOk K w mg "PARTS" partsT fo es n
  TO : ∃ fo es n, TabOk K w mg "OWN_ROWS" ownT fo es n
  SX : ∃ C f fd, SrcX K mg C f fd ∧ MSrc K C
theorem all_ok {P : Program} {w : World} {K : PySem.W.Frag} {mg : Str → Option Value} {base : Heap} {f : Addr} {fd : FuncData} (N : Env K w mg) (F : L2.Fun K "law" "law" sLaw20 f fd) : FnG P w K mg base CX0 18 f fd ["script"] (spLaw20 K) := by
  obtain ⟨fo, es, n, FO⟩ := N.FO
  obtain ⟨⟨k1, gL⟩, ⟨k2, gM⟩, ⟨k3, gR⟩, ⟨k4, gE⟩, ⟨k5, gNe⟩⟩ := N.CO
  obtain ⟨fI, fdI, cR, cN, cW, cB, cK, FI, ER, EK, xRR, xNR, xNN, xKR, xKN, xKK⟩ := N.ER
  obtain ⟨⟨aPl, gPl, tPl⟩⟩ := N.TU
  obtain ⟨CP, fP, fdP, PX, MM⟩ := N.PX
  have pc := PX.pc
  obtain ⟨pa, pes, pn, PT⟩ := N.TP
  obtain ⟨oa, oes, on, OT⟩ := N.TO
  obtain ⟨CS, fS, fdS, SX, MS⟩ := N.SX
  have D := N.D
  have B := N.B
  have T3 : Bl3 mg := B.toBl3
  have T1 : Bl mg := T3.toBl2.toBl
  have T2 : Bl2 mg := T3.toBl2
  have bI : Binds K fdI ["self", "value"] [] := FI.binds (ps := ["self", "value"]) fun _ _ _ _ _ _ us hl => match us, hl with | [_, _], _ => rfl
  have e1 : FnOk P w K mg base CX0 1 fI fdI ["self", "value"] (spErr K) := c_errInit FI N.nV gE N.vV
  have hk : [(("values" : Str), V.int 2)] ≠ [] := by simp
  obtain ⟨mv, kb⟩ := PX.fp.kbinds0 (ps := ["self", "rows", "registers", "values"]) 2 ["registers", "values"] [] (fun {α} us _ ws => us ++ ws) hk (fun q hq => nomatch hq) (fun r1 _ r3 => Vals.append r1 r3)
    (fun Da doc pm an cdv ct us mv ws l1 l2 l3 => match us, mv, ws, l1, l2, l3 with
      | [_, _], [], [_, _], _, _, _ => rfl)
  have c2 := c_isBetween (P := P) (w := w) (base := base) D.d_is_between T2
  have c3 := c_isWord (P := P) (w := w) (base := base) D.d_is_word T2 gL gM
  have c4 := c_areRegs D.d_are_registers T2 c3
  have c6 := c_isPart D.d__is_part T2 c2 c3
  have c5 := c_isRow D.d_is_row T2 FO c6
  have mC0 := c_cls (P := P) (w := w) (mg := mg) (base := base) MM.m_classes T2.n_range pc
  have mG0 := c_chg MM.m_changed_at T2.n_range pc mC0
  have cP' := c_progInit PX.fp T2 ER e1 bI gR c4 c2 c5 pc mG0
  have c7 := c_numbers (P := P) (w := w) (base := base) D.d__law_numbers T1
  have c8 := c_pool D.d__law_pool T1 c7
  have c9 := c_draw (P := P) (w := w) (K := K) (base := base) D.d__law_draw T1
  have c10 := c_pick D.d__law_pick T1 c9
  have c11 := c_words D.d__law_words T1 c9
  have q0 := c_plainRow D.d__is_plain_row c5
  have z0 : FnC P w K mg base CX0 5 "_count_block" ["value", "form", "levels", "in_loop"] (spCB K 0) := c_none D.d__count_block scCB
  have s0 := c_countS D.d__count_statement T2 N.n_sum gPl tPl PT OT (by decide) c3 q0 z0
  have b1 := c_countB D.d__count_block T2 gR s0
  have s1 := c_countS D.d__count_statement T2 N.n_sum gPl tPl PT OT (by decide) c3 q0 b1
  have b2 := c_countB D.d__count_block T2 gR s1
  have s2 := c_countS D.d__count_statement T2 N.n_sum gPl tPl PT OT (by decide) c3 q0 b2
  have b3 := c_countB D.d__count_block T2 gR s2
  have s3 := c_countS D.d__count_statement T2 N.n_sum gPl tPl PT OT (by decide) c3 q0 b3
  have b4 := c_countB D.d__count_block T2 gR s3
  have iB := c_isBlock D.d_is_block gNe b4
  have m0 : FnC P w K mg base CX0 1 "many_rows" ["block"] (spManyR K 0) := c_none D.d_many_rows scManyR
  have r0 := c_rowsOf D.d_rows_of N.n_sum PT OT m0
  have m1 := c_manyR D.d_many_rows N.n_sum r0
  have r1 := c_rowsOf D.d_rows_of N.n_sum PT OT m1
  have m2 := c_manyR D.d_many_rows N.n_sum r1
  have r2 := c_rowsOf D.d_rows_of N.n_sum PT OT m2
  have m3 := c_manyR D.d_many_rows N.n_sum r2
  have r3 := c_rowsOf D.d_rows_of N.n_sum PT OT m3
  have w0 : FnC P w K mg base CX0 5 "_write_block" ["rows", "block", "loop", "behind"] (spWB K 0) := c_none D.d__write_block scWB
  have w1 := c_writeB D.d__write_block (c_writeIf D.d__write_if T2 (m0.mono (by decide)) w0) (c_writeWh D.d__write_while T2 (r0.mono (by decide)) w0)
  have w2 := c_writeB D.d__write_block (c_writeIf D.d__write_if T2 (m1.mono (by decide)) w1) (c_writeWh D.d__write_while T2 (r1.mono (by decide)) w1)
  have w3 := c_writeB D.d__write_block (c_writeIf D.d__write_if T2 (m2.mono (by decide)) w2) (c_writeWh D.d__write_while T2 (r2.mono (by decide)) w2)
  have w4 := c_writeB D.d__write_block (c_writeIf D.d__write_if T2 (m3.mono (by decide)) w3) (c_writeWh D.d__write_while T2 (r3.mono (by decide)) w3)
  have lo := c_lowered D.d_lowered_rows w4
  have kn : [(("values" : Str), V.int 2)] ≠ [] := by simp
  have iS := c_srcInit SX.fp T2 ER EK SX.sc e1 bI c4 c2 iB lo PX.gP PX.mkk pc kb cP'
  obtain ⟨mvS, kbS⟩ := SX.fp.kbinds0 (ps := ["self", "block", "registers", "values"]) 2 ["registers", "values"] [] (fun {α} us _ ws => us ++ ws) kn (fun q hq => nomatch hq) (fun r1 _ r3 => Vals.append r1 r3)
    (fun Da doc pm an cdv ct us mv ws l1 l2 l3 => match us, mv, ws, l1, l2, l3 with
      | [_, _], [], [_, _], _, _, _ => rfl)
  have eqS := c_eqS (P := P) (w := w) (base := base) MS.m_eq T2 SX.sc pc SX.gS SX.ic
  have k0 := c_lWhole (P := P) (w := w) (base := base) D.d__law_whole T2
  have k1 := c_lWord (P := P) (w := w) (base := base) D.d__law_is_word T2
  have k2 := c_lParts D.d__law_parts_good T2 k0 k1
  have g0 : FnC P w K mg base CX0 2 "_law_good" ["block", "words", "size", "deep", "inside"] (spLGood K 0) := c_none D.d__law_good scLGood
  have g1 := c_lGood D.d__law_good T2 (by decide) k2 g0
  have g2 := c_lGood D.d__law_good T2 (by decide) k2 g1
  have g3 := c_lGood D.d__law_good T2 (by decide) k2 g2
  have g4 := c_lGood D.d__law_good T2 (by decide) k2 g3
  have y0 : FnC P w K mg base CX0 2 "_law_block_size" ["block"] (spLSize K 0) := c_none D.d__law_block_size scLSize
  have y1 := c_lSize D.d__law_block_size y0
  have y2 := c_lSize D.d__law_block_size y1
  have y3 := c_lSize D.d__law_block_size y2
  have y4 := c_lSize D.d__law_block_size y3
  have h0 : FnC P w K mg base CX0 2 "_law_block" ["pool", "words", "size", "deep", "inside", "kinds"] (spLBlock K 0) := c_none D.d__law_block scLBlock
  have h1 := c_lBlock D.d__law_block T1 T2.n_tuple (by decide) c9 (c_lStmt D.d__law_statement (by decide) c9 c10 h0)
  have h2 := c_lBlock D.d__law_block T1 T2.n_tuple (by decide) c9 (c_lStmt D.d__law_statement (by decide) c9 c10 h1)
  have h3 := c_lBlock D.d__law_block T1 T2.n_tuple (by decide) c9 (c_lStmt D.d__law_statement (by decide) c9 c10 h2)
  have h4 := c_lBlock D.d__law_block T1 T2.n_tuple (by decide) c9 (c_lStmt D.d__law_statement (by decide) c9 c10 h3)
  have pl := c_lSPlan (k := 10) D.d__law_source_plan T1 (by decide) c9 c11 (y4.mono (by decide)) h4 (h3.mono (by decide))
  have be := c_lBent D.d__law_bent T2 c9 c10
  have X4 : ExmS K cR cN cK := ⟨xRR, xNR, xNN, xKR, xKN, xKK⟩
  have he := c_lHeard D.d__law_heard T3 SX.gS SX.mkk SX.sc ER EK X4 kbS iS
  have du := c_lDue D.d__law_due T3 (k := 6) (by decide) k1 g4 y4
  exact c_law20 F T3 ⟨c8, pl, be, he, du, SX.mkk, iS, SX.gS, kbS, eqS, SX.nf, SX.ne, SX.ob⟩
theorem walk {l : PySem.W.OpenLaw} {q : Program} {loose : List Str} {XP : (Str → Option Value) → Heap → Prop} {YP : World → Heap → Prop} {d : DefRec} {K : Params → PySem.W.Frag} (hn : l.most = some 63) (hdf : d.params.defaults = []) (hY : ∀ (w : World) (h : Heap), YP w h → (K w.params).In h)
    (F : ∀ (w : World) (mg : Str → Option Value) (fa : Addr) (h : Heap), (K w.params).In h → h.Ns mainGlobals mg → mg d.name = some (.ref fa) →
      ∃ fd : FuncData, (∀ (s : Shared) (u : Value), BindsTo s fd ⟨[u], []⟩ [("script", u)]) ∧ ∀ base : Heap, (K w.params).In base → base.Ns mainGlobals mg → FnG l.prog w (K w.params) mg base CX0 18 fa fd ["script"] (spLaw20 (K w.params))) :
    PySem.W.WalkO q loose XP YP l.row.toRowW d [] (fun f vs => PySem.call f vs) :=
  walk_ofG (n := 63) (k := 18) (x := "script") (CX := fun _ => CX0) (sp := spLaw20) hn (by decide) hdf ⟨rfl, by decide, by decide⟩ hY F (fun _ _ a ns hl _ hS => ⟨a, ns, rfl, hl, hS, fun _ => rfl⟩) fun _ _ _ _ _ z => z
theorem fin {P : Program} {w : World} {K : PySem.W.Frag} {h : Heap} {mg : Str → Option Value} {fa : Addr} (KX : K.In h) (G : h.Ns mainGlobals mg) (hmg : mg "law" = some (.ref fa)) (N : Env K w mg)
    (LW : ∃ f fd, L2.Fun K "law" "law" sLaw20 f fd ∧ mg "law" = some (.ref f) ∧ ∀ (s : Shared) (u : Value), BindsTo s fd ⟨[u], []⟩ [("script", u)]) :
    ∃ fd : FuncData, (∀ (s : Shared) (u : Value), BindsTo s fd ⟨[u], []⟩ [("script", u)]) ∧ ∀ base : Heap, K.In base → base.Ns mainGlobals mg → FnG P w K mg base CX0 18 fa fd ["script"] (spLaw20 K) := by
  obtain ⟨f, fd, F, hf, hb⟩ := LW
  have e := hmg.symm.trans hf
  cases e
  exact ⟨fd, hb, fun base _ _ => all_ok N F⟩
theorem law_mk {K : PySem.W.Frag} {h : Heap} {mg : Str → Option Value} {f : Addr} {oc : Value} {od an : Option Addr} {osl : Array (Option Value)} {kV dc pm cd ct : Value} (X : K.In h) (G : h.Ns mainGlobals mg) (a : PySem.W.nsIn K mainGlobals "law" = some (some (.ref f)))
    (l : K.lookup f = some ⟨oc, od, .func (PySem.W.fnOf "law" "law" (defArgs sLaw20) (defBody sLaw20) (defScope sLaw20) .none kV dc pm an cd ct), osl⟩) (c : PySem.W.codeIn K cd "law" = true) (kp : PySem.W.keepIn K (.ref f) = true) :
    ∃ f fd, L2.Fun K "law" "law" sLaw20 f fd ∧ mg "law" = some (.ref f) ∧ ∀ (s : Shared) (u : Value), BindsTo s fd ⟨[u], []⟩ [("script", u)] :=
  ⟨f, _, fun_mk (st := sLaw20) l c kp, PySem.W.mg_of X G a, fun s v => .of_eq rfl⟩
theorem cons_mk {K : PySem.W.Frag} {h : Heap} {mg : Str → Option Value} {k1 k2 k3 k4 k5 : Tok} (X : K.In h) (G : h.Ns mainGlobals mg) (a1 : PySem.W.nsIn K mainGlobals "LETTERS" = some (some (.str "abcdefghijklmnopqrstuvwxyz" k1))) (a2 : PySem.W.nsIn K mainGlobals "MOST_LETTERS" = some (some (.int 8 k2))) (a3 : PySem.W.nsIn K mainGlobals "MOST_ROWS" = some (some (.int 24 k3))) (a4 : PySem.W.nsIn K mainGlobals "_MESSAGE" = some (some (.str "the attribute value tells what this is about" k4))) (a5 : PySem.W.nsIn K mainGlobals "MOST_NESTED" = some (some (.int 3 k5))) : Cons mg :=
  ⟨⟨k1, PySem.W.mg_of X G a1⟩, ⟨k2, PySem.W.mg_of X G a2⟩, ⟨k3, PySem.W.mg_of X G a3⟩, ⟨k4, PySem.W.mg_of X G a4⟩, ⟨k5, PySem.W.mg_of X G a5⟩⟩
theorem tup_mk {K : PySem.W.Frag} {h : Heap} {mg : Str → Option Value} {x : Str} {zs : List Str} {st : Addr} {dd2 : Option Addr} {i2 : Array Value} {z2 : Nat} {sl2 : Array (Option Value)} (X : K.In h) (G : h.Ns mainGlobals mg) (hz : zs.length ≤ 50) (aS : PySem.W.nsIn K mainGlobals x = some (some (.ref st))) (ls : K.lookup st = some ⟨.type "tuple", dd2, .seq i2 z2, sl2⟩) (vs : Vals (zs.map V.str) i2.toList) :
    Tup K mg x zs := ⟨st, PySem.W.mg_of X G aS, fun H => sqT_K ls vs (by omega) H⟩
theorem errs_mk {K : PySem.W.Frag} {h : Heap} {mg : Str → Option Value} {fI cR cN cW cB cK : Addr} {oc : Value} {od an : Option Addr} {osl : Array (Option Value)} {kV dc pm cd ct : Value} (X : K.In h) (G : h.Ns mainGlobals mg)
    (xR : ErrC K mg "BadRegisters" cR fI) (xN : ErrC K mg "BadNumber" cN fI) (xW : ErrC K mg "BadRows" cW fI) (xB : ErrC K mg "BadRow" cB fI) (xK : ErrC K mg "BadBlock" cK fI) (yR : ErrX K cR) (yN : ErrX K cN) (yK : ErrX K cK) (sRR : PySem.W.subIn K (.ref cR) (.ref cR) = some true) (sNR : PySem.W.subIn K (.ref cN) (.ref cR) = some false) (sNN : PySem.W.subIn K (.ref cN) (.ref cN) = some true) (sKR : PySem.W.subIn K (.ref cK) (.ref cR) = some false) (sKN : PySem.W.subIn K (.ref cK) (.ref cN) = some false) (sKK : PySem.W.subIn K (.ref cK) (.ref cK) = some true)
    (l : K.lookup fI = some ⟨oc, od, .func (PySem.W.fnOf "__init__" "LanesError.__init__" (defArgs sErrInit) (defBody sErrInit) (defScope sErrInit) .none kV dc pm an cd ct), osl⟩) (c : PySem.W.codeIn K cd "LanesError.__init__" = true) (kp : PySem.W.keepIn K (.ref fI) = true) :
    ∃ fI fdI cR cN cW cB cK, L2.Fun K "__init__" "LanesError.__init__" sErrInit fI fdI ∧ Errs K mg fI cR cN cW cB ∧ ErrC K mg "BadBlock" cK fI ∧ PySem.W.exmOne K (.ref cR) (.ref cR) = some true ∧ PySem.W.exmOne K (.ref cN) (.ref cR) = some false ∧ PySem.W.exmOne K (.ref cN) (.ref cN) = some true ∧ PySem.W.exmOne K (.ref cK) (.ref cR) = some false ∧ PySem.W.exmOne K (.ref cK) (.ref cN) = some false ∧ PySem.W.exmOne K (.ref cK) (.ref cK) = some true :=
  ⟨fI, _, cR, cN, cW, cB, cK, fun_mk (st := sErrInit) l c kp, ⟨xR, xN, xW, xB⟩, xK, exmX yR sRR, exmX yR sNR, exmX yN sNN, exmX yR sKR, exmX yN sKN, exmX yK sKK⟩
theorem kit_no {K : PySem.W.Frag} {C : Addr} (T : String) (h2 : PySem.W.isClsIn K C = true) (h3 : PySem.W.typeIn K (.ref C) = some (.type "type")) (h4 : PySem.W.subIn K (.type T) (.ref C) = some false) : PySem.W.kitOne K (.type T) (.ref C) = some false := by
  have e2 : ((PySem.W.clsIn K C).isSome && PySem.W.typeIn K (.ref C) == some (.type "type")) = true := by
    have e3 : (PySem.W.clsIn K C).isSome = true := h2
    rw [e3, h3]
    rfl
  show (if (Value.type T == Value.ref C) = true then some true else if ((PySem.W.clsIn K C).isSome && PySem.W.typeIn K (.ref C) == some (.type "type")) = true then PySem.W.subIn K (.type T) (.ref C) else none) = some false
  rw [if_neg (by simp), if_pos e2]
  exact h4
theorem prog_mk {K : PySem.W.Frag} {h : Heap} {mg : Str → Option Value} {C f : Addr} {oc : Value} {od an : Option Addr} {osl : Array (Option Value)} {dc pm cd ct : Value} {Dk : Addr} {tk : Tok} (X : K.In h) (G : h.Ns mainGlobals mg) (aP : PySem.W.nsIn K mainGlobals "Program" = some (some (.ref C)))
    (mk : PySem.W.makesIn K C = true) (a1 : PySem.W.findIn K (.ref C) "__init__" = some (some (.ref f))) (i1 : PySem.W.isFn K (.ref f) = true) (kc : PySem.W.keepIn K (.ref C) = true)
    (pg : PySem.W.plainGet K C Str.empty = true) (hd : PySem.W.hasDictIn K C = true) (po : PySem.W.plainOver K C = true) (sa : PySem.W.findIn K (.ref C) "__setattr__" = some (some (.builtin "object.__setattr__")))
    (n1 : PySem.W.findIn K (.ref C) "registers" = some none) (n2 : PySem.W.findIn K (.ref C) "size" = some none) (n3 : PySem.W.findIn K (.ref C) "rows" = some none) (n4 : PySem.W.findIn K (.ref C) "end" = some none) (n5 : PySem.W.findIn K (.ref C) "places" = some none) (n6 : PySem.W.findIn K (.ref C) "changed" = some none)
    (l : K.lookup f = some ⟨oc, od, .func (PySem.W.fnOf "__init__" "Program.__init__" (defArgs sProgInit) (defBody sProgInit) (defScope sProgInit) .none (.ref Dk) dc pm an cd ct), osl⟩) (c : PySem.W.codeIn K cd "Program.__init__" = true) (kp : PySem.W.keepIn K (.ref f) = true)
    (kw2 : PySem.W.nsIn K Dk "values" = some (some (.int 2 tk))) (ic : IsC K C) : ∃ fdP, ProgX K mg C f fdP :=
  ⟨_, PySem.W.mg_of X G aP, ⟨mk, a1, i1, kc⟩, ⟨⟨pg, hd, po, sa⟩, n1, n2, n3, n4, n5, n6⟩, ⟨⟨oc, od, .none, .ref Dk, dc, pm, an, cd, ct, osl, rfl, l, c, .inl ⟨rfl, rfl⟩, .inr ⟨Dk, rfl, fun q hq => by
    rw [List.mem_singleton.mp hq]
    exact ⟨_, kw2, ⟨tk, rfl⟩⟩⟩⟩, kp⟩, ic⟩
theorem bothProg {K : PySem.W.Frag} {mg : Str → Option Value} {C f : Addr} (h : ∃ fd, ProgX K mg C f fd) (m : MProg K C) : ∃ C f fd, ProgX K mg C f fd ∧ MProg K C := by
  obtain ⟨fd, h⟩ := h
  exact ⟨C, f, fd, h, m⟩
theorem tab_mk {K : PySem.W.Frag} {w : World} {h : Heap} {mg : Str → Option Value} {name : Str} {fo : Addr} {n : Nat} {i1 i2 h1 h2 : Int} {t1 t2 u1 u2 : Tok} (X : K.In h) (G : h.Ns mainGlobals mg) (aF : PySem.W.nsIn K mainGlobals name = some (some (.ref fo)))
    (l : K.lookup fo = some ⟨.type "dict", none, .dict #[(⟨h1, .str "if" t1, .int i1 u1⟩ : DictEntry), ⟨h2, .str "while" t2, .int i2 u2⟩] n, #[]⟩)
    (lit : PySem.W.KeysLit w.params (Array.toList #[(⟨h1, .str "if" t1, .int i1 u1⟩ : DictEntry), ⟨h2, .str "while" t2, .int i2 u2⟩])) (low : (fo == sysModules) = false) : TabOk K w mg name [("if", i1), ("while", i2)] fo #[(⟨h1, .str "if" t1, .int i1 u1⟩ : DictEntry), ⟨h2, .str "while" t2, .int i2 u2⟩] n := by
  have lk : ∀ z : Str, PySem.W.nsIn K fo z = (match (Array.toList #[(⟨h1, .str "if" t1, .int i1 u1⟩ : DictEntry), ⟨h2, .str "while" t2, .int i2 u2⟩]).find? (·.key.isStr z) with
      | some e => some (some e.val)
      | none => if (Array.toList #[(⟨h1, .str "if" t1, .int i1 u1⟩ : DictEntry), ⟨h2, .str "while" t2, .int i2 u2⟩]).any (·.refKey) then none else some none) := fun z => by
    unfold PySem.W.nsIn
    rw [l]
    rfl
  refine ⟨PySem.W.mg_of X G aF, ⟨l, lit, low⟩, fun z i hz => ?_, fun z hz => ?_⟩
  · by_cases c0 : z = "if"
    · subst c0
      cases (show some i1 = some i from hz)
      exact ⟨u1, (lk _).trans rfl⟩
    by_cases c1 : z = "while"
    · subst c1
      cases (show some i2 = some i from hz)
      exact ⟨u2, (lk _).trans rfl⟩
    have b : ∀ k : Str, z ≠ k → (k == z) = false := fun k h => beq_false_of_ne (Ne.symm h)
    unfold tabOf at hz
    simp only [List.find?_cons, List.find?_nil, b _ c0, b _ c1, Option.map_none] at hz
    cases hz
  · by_cases c0 : z = "if"
    · subst c0
      cases (show some i1 = none from hz)
    by_cases c1 : z = "while"
    · subst c1
      cases (show some i2 = none from hz)
    rw [lk]
    have b : ∀ k : Str, z ≠ k → (k == z) = false := fun k h => beq_false_of_ne (Ne.symm h)
    have e1 : (Value.str "if" t1).isStr z = false := b _ c0
    have e2 : (Value.str "while" t2).isStr z = false := b _ c1
    simp only [List.find?_cons, List.find?_nil, e1, e2]
    rfl
theorem src_mk {K : PySem.W.Frag} {h : Heap} {mg : Str → Option Value} {C f : Addr} {oc : Value} {od an : Option Addr} {osl : Array (Option Value)} {dc pm cd ct : Value} {Dk : Addr} {tk : Tok} (X : K.In h) (G : h.Ns mainGlobals mg) (aP : PySem.W.nsIn K mainGlobals "Source" = some (some (.ref C)))
    (mk : PySem.W.makesIn K C = true) (a1 : PySem.W.findIn K (.ref C) "__init__" = some (some (.ref f))) (i1 : PySem.W.isFn K (.ref f) = true) (kc : PySem.W.keepIn K (.ref C) = true)
    (pg : PySem.W.plainGet K C Str.empty = true) (hd : PySem.W.hasDictIn K C = true) (po : PySem.W.plainOver K C = true) (sa : PySem.W.findIn K (.ref C) "__setattr__" = some (some (.builtin "object.__setattr__")))
    (n1 : PySem.W.findIn K (.ref C) "block" = some none) (n2 : PySem.W.findIn K (.ref C) "program" = some none)
    (l : K.lookup f = some ⟨oc, od, .func (PySem.W.fnOf "__init__" "Source.__init__" (defArgs sSInit) (defBody sSInit) (defScope sSInit) .none (.ref Dk) dc pm an cd ct), osl⟩) (c : PySem.W.codeIn K cd "Source.__init__" = true) (kp : PySem.W.keepIn K (.ref f) = true)
    (kw2 : PySem.W.nsIn K Dk "values" = some (some (.int 2 tk))) (ic : IsC K C) (nf : PySem.W.notFirst K C (.type "tuple") = true) (ne : PySem.W.findIn K (.ref C) "__ne__" = some (some (.builtin "object.__ne__"))) (ob : PySem.W.subIn K (.ref C) (.type "object") = some true) (m : MSrc K C) : ∃ C f fd, SrcX K mg C f fd ∧ MSrc K C :=
  ⟨C, f, _, ⟨PySem.W.mg_of X G aP, ⟨mk, a1, i1, kc⟩, ⟨⟨pg, hd, po, sa⟩, n1, n2⟩, ⟨⟨oc, od, .none, .ref Dk, dc, pm, an, cd, ct, osl, rfl, l, c, .inl ⟨rfl, rfl⟩, .inr ⟨Dk, rfl, fun q hq => by
    rw [List.mem_singleton.mp hq]
    exact ⟨_, kw2, ⟨tk, rfl⟩⟩⟩⟩, kp⟩, ic, nf, ne, ob⟩, m⟩

end YY

open PySem PySem.W PyProof.Rows
set_option maxRecDepth 100000 in
set_option maxHeartbeats 0 in
theorem PySem.Challenge.cw_partedlanes_k20_sources_made_and_refused_holds : PySem.Challenge.rw_partedlanes_k20_sources_made_and_refused.Holds := by
  refine k_top_head ?_
  k_fill
  refine YY.walk (l := PySem.Challenge.rw_partedlanes_k20_sources_made_and_refused) rfl rfl (fun w h Y => PySem.W.kIn_of Y) ?F
  case F =>
    intro w mg fa h KX G hmg
    refine' YY.fin KX G hmg ?eEnv ?eLaw
    case eLaw =>
      refine' YY.law_mk KX G ?a ?l ?c ?k
      (case a => k_is); (case l => k_is); (case c => k_is); (case k => k_is)
    case eEnv =>
      refine' ⟨?eD, ?eT, ?en_sum, ?eFO, ?eCO, ?enV, ?evV, ?eER, ?eTU, ?ePX, ?eTP, ?eTO, ?eSX⟩
      case eD =>
        constructor
        · refine' XX.def_mk (x := "is_between") (st := YY.sIsBetween) KX G ?a ?l ?c ?k (fun _ _ _ _ _ _ us hl => match us, hl with | [_, _, _], _ => rfl)
          (case a => k_is); (case l => k_is); (case c => k_is); (case k => k_is)
        · refine' XX.def_mk (x := "is_word") (st := YY.sIsWord) KX G ?a ?l ?c ?k (fun _ _ _ _ _ _ us hl => match us, hl with | [_], _ => rfl)
          (case a => k_is); (case l => k_is); (case c => k_is); (case k => k_is)
        · refine' XX.def_mk (x := "are_registers") (st := YY.sAreRegs) KX G ?a ?l ?c ?k (fun _ _ _ _ _ _ us hl => match us, hl with | [_], _ => rfl)
          (case a => k_is); (case l => k_is); (case c => k_is); (case k => k_is)
        · refine' XX.def_mk (x := "is_row") (st := YY.sIsRow) KX G ?a ?l ?c ?k (fun _ _ _ _ _ _ us hl => match us, hl with | [_, _, _, _], _ => rfl)
          (case a => k_is); (case l => k_is); (case c => k_is); (case k => k_is)
        · refine' XX.def_mk (x := "_is_part") (st := YY.sIsPart) KX G ?a ?l ?c ?k (fun _ _ _ _ _ _ us hl => match us, hl with | [_, _, _, _, _], _ => rfl)
          (case a => k_is); (case l => k_is); (case c => k_is); (case k => k_is)
        · refine' XX.def_mk (x := "is_block") (st := YY.sIsBlock) KX G ?a ?l ?c ?k (fun _ _ _ _ _ _ us hl => match us, hl with | [_, _, _], _ => rfl)
          (case a => k_is); (case l => k_is); (case c => k_is); (case k => k_is)
        · refine' XX.def_mk (x := "_count_block") (st := YY.sCountB) KX G ?a ?l ?c ?k (fun _ _ _ _ _ _ us hl => match us, hl with | [_, _, _, _], _ => rfl)
          (case a => k_is); (case l => k_is); (case c => k_is); (case k => k_is)
        · refine' XX.def_mk (x := "_count_statement") (st := YY.sCountS) KX G ?a ?l ?c ?k (fun _ _ _ _ _ _ us hl => match us, hl with | [_, _, _, _], _ => rfl)
          (case a => k_is); (case l => k_is); (case c => k_is); (case k => k_is)
        · refine' XX.def_mk (x := "_is_plain_row") (st := YY.sPlainRow) KX G ?a ?l ?c ?k (fun _ _ _ _ _ _ us hl => match us, hl with | [_, _], _ => rfl)
          (case a => k_is); (case l => k_is); (case c => k_is); (case k => k_is)
        · refine' XX.def_mk (x := "many_rows") (st := YY.sManyR) KX G ?a ?l ?c ?k (fun _ _ _ _ _ _ us hl => match us, hl with | [_], _ => rfl)
          (case a => k_is); (case l => k_is); (case c => k_is); (case k => k_is)
        · refine' XX.def_mk (x := "rows_of") (st := YY.sRowsOf) KX G ?a ?l ?c ?k (fun _ _ _ _ _ _ us hl => match us, hl with | [_], _ => rfl)
          (case a => k_is); (case l => k_is); (case c => k_is); (case k => k_is)
        · refine' XX.def_mk (x := "lowered_rows") (st := YY.sLowered) KX G ?a ?l ?c ?k (fun _ _ _ _ _ _ us hl => match us, hl with | [_], _ => rfl)
          (case a => k_is); (case l => k_is); (case c => k_is); (case k => k_is)
        · refine' XX.def_mk (x := "_write_block") (st := YY.sWriteB) KX G ?a ?l ?c ?k (fun _ _ _ _ _ _ us hl => match us, hl with | [_, _, _, _], _ => rfl)
          (case a => k_is); (case l => k_is); (case c => k_is); (case k => k_is)
        · refine' XX.def_mk (x := "_write_if") (st := YY.sWriteIf) KX G ?a ?l ?c ?k (fun _ _ _ _ _ _ us hl => match us, hl with | [_, _, _, _], _ => rfl)
          (case a => k_is); (case l => k_is); (case c => k_is); (case k => k_is)
        · refine' XX.def_mk (x := "_write_while") (st := YY.sWriteWh) KX G ?a ?l ?c ?k (fun _ _ _ _ _ _ us hl => match us, hl with | [_, _], _ => rfl)
          (case a => k_is); (case l => k_is); (case c => k_is); (case k => k_is)
        · refine' XX.def_mk (x := "_law_numbers") (st := YY.sNumbers) KX G ?a ?l ?c ?k (fun _ _ _ _ _ _ us hl => match us, hl with | [_, _, _], _ => rfl)
          (case a => k_is); (case l => k_is); (case c => k_is); (case k => k_is)
        · refine' XX.def_mk (x := "_law_pool") (st := YY.sPool) KX G ?a ?l ?c ?k (fun _ _ _ _ _ _ us hl => match us, hl with | [_, _, _], _ => rfl)
          (case a => k_is); (case l => k_is); (case c => k_is); (case k => k_is)
        · refine' XX.def_mk (x := "_law_draw") (st := YY.sDraw) KX G ?a ?l ?c ?k (fun _ _ _ _ _ _ us hl => match us, hl with | [_, _], _ => rfl)
          (case a => k_is); (case l => k_is); (case c => k_is); (case k => k_is)
        · refine' XX.def_mk (x := "_law_pick") (st := YY.sPick) KX G ?a ?l ?c ?k (fun _ _ _ _ _ _ us hl => match us, hl with | [_, _], _ => rfl)
          (case a => k_is); (case l => k_is); (case c => k_is); (case k => k_is)
        · refine' XX.def_mk (x := "_law_words") (st := YY.sWords) KX G ?a ?l ?c ?k (fun _ _ _ _ _ _ us hl => match us, hl with | [_], _ => rfl)
          (case a => k_is); (case l => k_is); (case c => k_is); (case k => k_is)
        · refine' XX.def_mk (x := "_law_statement") (st := YY.sLStmt) KX G ?a ?l ?c ?k (fun _ _ _ _ _ _ us hl => match us, hl with | [_, _, _, _, _, _], _ => rfl)
          (case a => k_is); (case l => k_is); (case c => k_is); (case k => k_is)
        · refine' XX.def_mk (x := "_law_block") (st := YY.sLBlock) KX G ?a ?l ?c ?k (fun _ _ _ _ _ _ us hl => match us, hl with | [_, _, _, _, _, _], _ => rfl)
          (case a => k_is); (case l => k_is); (case c => k_is); (case k => k_is)
        · refine' XX.def_mk (x := "_law_block_size") (st := YY.sLSize) KX G ?a ?l ?c ?k (fun _ _ _ _ _ _ us hl => match us, hl with | [_], _ => rfl)
          (case a => k_is); (case l => k_is); (case c => k_is); (case k => k_is)
        · refine' XX.def_mk (x := "_law_source_plan") (st := YY.sLSPlan) KX G ?a ?l ?c ?k (fun _ _ _ _ _ _ us hl => match us, hl with | [_, _], _ => rfl)
          (case a => k_is); (case l => k_is); (case c => k_is); (case k => k_is)
        · refine' XX.def_mk (x := "_law_whole") (st := YY.sLWhole) KX G ?a ?l ?c ?k (fun _ _ _ _ _ _ us hl => match us, hl with | [_, _], _ => rfl)
          (case a => k_is); (case l => k_is); (case c => k_is); (case k => k_is)
        · refine' XX.def_mk (x := "_law_is_word") (st := YY.sLWord) KX G ?a ?l ?c ?k (fun _ _ _ _ _ _ us hl => match us, hl with | [_], _ => rfl)
          (case a => k_is); (case l => k_is); (case c => k_is); (case k => k_is)
        · refine' XX.def_mk (x := "_law_parts_good") (st := YY.sLParts) KX G ?a ?l ?c ?k (fun _ _ _ _ _ _ us hl => match us, hl with | [_, _, _], _ => rfl)
          (case a => k_is); (case l => k_is); (case c => k_is); (case k => k_is)
        · refine' XX.def_mk (x := "_law_good") (st := YY.sLGood) KX G ?a ?l ?c ?k (fun _ _ _ _ _ _ us hl => match us, hl with | [_, _, _, _, _], _ => rfl)
          (case a => k_is); (case l => k_is); (case c => k_is); (case k => k_is)
        · refine' XX.def_mk (x := "_law_due") (st := YY.sLDue) KX G ?a ?l ?c ?k (fun _ _ _ _ _ _ us hl => match us, hl with | [_, _, _], _ => rfl)
          (case a => k_is); (case l => k_is); (case c => k_is); (case k => k_is)
        · refine' XX.def_mk (x := "_law_heard") (st := YY.sLHeard) KX G ?a ?l ?c ?k (fun _ _ _ _ _ _ us hl => match us, hl with | [_, _, _], _ => rfl)
          (case a => k_is); (case l => k_is); (case c => k_is); (case k => k_is)
        · refine' XX.def_mk (x := "_law_bent") (st := YY.sLBent) KX G ?a ?l ?c ?k (fun _ _ _ _ _ _ us hl => match us, hl with | [_, _], _ => rfl)
          (case a => k_is); (case l => k_is); (case c => k_is); (case k => k_is)
      case eT =>
        refine ⟨⟨⟨⟨PySem.W.mg_none_of KX G ?_, PySem.W.mg_none_of KX G ?_, PySem.W.mg_none_of KX G ?_, PySem.W.mg_none_of KX G ?_⟩, PySem.W.mg_none_of KX G ?_, PySem.W.mg_none_of KX G ?_, PySem.W.mg_none_of KX G ?_, PySem.W.mg_none_of KX G ?_, PySem.W.mg_none_of KX G ?_, PySem.W.mg_none_of KX G ?_, PySem.W.mg_none_of KX G ?_, PySem.W.mg_none_of KX G ?_⟩, PySem.W.mg_none_of KX G ?_, PySem.W.mg_none_of KX G ?_⟩, PySem.W.mg_none_of KX G ?_⟩
        all_goals k_is
      case enV =>
        refine PySem.W.mg_none_of KX G ?_
        k_is
      case en_sum =>
        refine PySem.W.mg_none_of KX G ?_
        k_is
      case evV => k_is
      case eCO =>
        refine' YY.cons_mk KX G ?a1 ?a2 ?a3 ?a4 ?a5
        (case a1 => k_is); (case a2 => k_is); (case a3 => k_is); (case a4 => k_is); (case a5 => k_is)
      case eTU =>
        refine' ⟨YY.tup_mk KX G (by decide) ?aT0 ?lT0 ?vT0⟩
        (case aT0 => k_is); (case lT0 => k_is); (case vT0 => repeat (first | exact .nil | refine .cons ⟨_, rfl⟩ ?_))
      case eER =>
        refine' YY.errs_mk KX G ?eeR ?eeN ?eeW ?eeB ?eeK ?eyR ?eyN ?eyK ?esRR ?esNR ?esNN ?esKR ?esKN ?esKK ?el ?ec ?ek
        case eeR =>
          refine' YY.err_mk KX G ?aCR ?xLR ?bmrR ?saR ?gaR ?ggR ?noR ?iniR ?tIR ?kCR ?eCR ?tCR ?hCR
          (case aCR => k_is); (case xLR => k_is); (case bmrR => decide +kernel); (case saR => k_is); (case gaR => k_is); (case ggR => k_is); (case noR => k_is); (case iniR => k_is); (case tIR => k_is); (case kCR => k_is); (case eCR => k_is); (case tCR => k_is); (case hCR => k_is)
        case eeN =>
          refine' YY.err_mk KX G ?aCN ?xLN ?bmrN ?saN ?gaN ?ggN ?noN ?iniN ?tIN ?kCN ?eCN ?tCN ?hCN
          (case aCN => k_is); (case xLN => k_is); (case bmrN => decide +kernel); (case saN => k_is); (case gaN => k_is); (case ggN => k_is); (case noN => k_is); (case iniN => k_is); (case tIN => k_is); (case kCN => k_is); (case eCN => k_is); (case tCN => k_is); (case hCN => k_is)
        case eeW =>
          refine' YY.err_mk KX G ?aCW ?xLW ?bmrW ?saW ?gaW ?ggW ?noW ?iniW ?tIW ?kCW ?eCW ?tCW ?hCW
          (case aCW => k_is); (case xLW => k_is); (case bmrW => decide +kernel); (case saW => k_is); (case gaW => k_is); (case ggW => k_is); (case noW => k_is); (case iniW => k_is); (case tIW => k_is); (case kCW => k_is); (case eCW => k_is); (case tCW => k_is); (case hCW => k_is)
        case eeB =>
          refine' YY.err_mk KX G ?aCB ?xLB ?bmrB ?saB ?gaB ?ggB ?noB ?iniB ?tIB ?kCB ?eCB ?tCB ?hCB
          (case aCB => k_is); (case xLB => k_is); (case bmrB => decide +kernel); (case saB => k_is); (case gaB => k_is); (case ggB => k_is); (case noB => k_is); (case iniB => k_is); (case tIB => k_is); (case kCB => k_is); (case eCB => k_is); (case tCB => k_is); (case hCB => k_is)
        case eeK =>
          refine' YY.err_mk KX G ?aCK ?xLK ?bmrK ?saK ?gaK ?ggK ?noK ?iniK ?tIK ?kCK ?eCK ?tCK ?hCK
          (case aCK => k_is); (case xLK => k_is); (case bmrK => decide +kernel); (case saK => k_is); (case gaK => k_is); (case ggK => k_is); (case noK => k_is); (case iniK => k_is); (case tIK => k_is); (case kCK => k_is); (case eCK => k_is); (case tCK => k_is); (case hCK => k_is)
        (case eyR => exact ⟨by k_is, by k_is, by k_is⟩)
        (case eyN => exact ⟨by k_is, by k_is, by k_is⟩)
        (case eyK => exact ⟨by k_is, by k_is, by k_is⟩)
        (case esRR => k_is); (case esNR => k_is); (case esNN => k_is); (case esKR => k_is); (case esKN => k_is); (case esKK => k_is)
        (case el => k_is); (case ec => k_is); (case ek => k_is)
      case eFO =>
        refine' ⟨_, _, _, YY.forms_mk KX G ?aF ?fl ?lit ?low ?fs1 ?fs2 ?fs3 ?fs4 ?fs5 ?fs6 ?fs7 ?fs8 ?fs9 ?fs10 ?fs11⟩
        (case aF => k_is); (case fl => k_is)
        (case lit => exact ⟨⟨_, _, rfl, rfl⟩, ⟨_, _, rfl, rfl⟩, ⟨_, _, rfl, rfl⟩, ⟨_, _, rfl, rfl⟩, ⟨_, _, rfl, rfl⟩, ⟨_, _, rfl, rfl⟩, ⟨_, _, rfl, rfl⟩, ⟨_, _, rfl, rfl⟩, ⟨_, _, rfl, rfl⟩, ⟨_, _, rfl, rfl⟩, ⟨_, _, rfl, rfl⟩, True.intro⟩)
        (case low => decide)
        all_goals
          refine' YY.sqT_K ?tl ?tv (by decide)
          (case tl => k_is)
          (case tv => repeat (first | exact .nil | refine .cons ⟨_, rfl⟩ ?_))
      case ePX =>
        refine' YY.bothProg ?hP ?mP
        case hP =>
          refine' YY.prog_mk KX G ?pa ?pb1 ?pb2 ?pb3 ?pb4 ?pc1 ?pc2 ?pc3 ?pc4 ?pn1 ?pn2 ?pn3 ?pn4 ?pn5 ?pn6 ?pl1 ?pl2 ?pl3 ?pkw ?pic
          (case pa => k_is); (case pb1 => k_is); (case pb2 => k_is); (case pb3 => k_is); (case pb4 => k_is); (case pc1 => k_is); (case pc2 => k_is); (case pc3 => k_is); (case pc4 => k_is); (case pn1 => k_is); (case pn2 => k_is); (case pn3 => k_is); (case pn4 => k_is); (case pn5 => k_is); (case pn6 => k_is); (case pl1 => k_is); (case pl2 => k_is); (case pl3 => k_is); (case pkw => k_is); (case pic => exact ⟨by k_is, by k_is, by k_is, by k_is, YY.kit_no "tuple" (by k_is) (by k_is) (by k_is)⟩)
        case mP =>
          constructor
          · refine' YY.methd_mk (m := "classes") (q := "Program.classes") (st := YY.sCls) ?ma1 ?mi1 ?mk1 ?ml1 ?mc1 (fun _ _ _ _ _ _ us hl => match us, hl with | [_], _ => rfl)
            (case ma1 => k_is); (case mi1 => k_is); (case mk1 => k_is); (case ml1 => k_is); (case mc1 => k_is)
          · refine' YY.methd_mk (m := "_changed_at") (q := "Program._changed_at") (st := YY.sChg) ?ma2 ?mi2 ?mk2 ?ml2 ?mc2 (fun _ _ _ _ _ _ us hl => match us, hl with | [_, _], _ => rfl)
            (case ma2 => k_is); (case mi2 => k_is); (case mk2 => k_is); (case ml2 => k_is); (case mc2 => k_is)
      case eTP =>
        refine' ⟨_, _, _, YY.tab_mk KX G ?aTP ?lTP ?iTP ?wTP⟩
        (case aTP => k_is); (case lTP => k_is)
        (case iTP => exact ⟨⟨_, _, rfl, rfl⟩, ⟨_, _, rfl, rfl⟩, True.intro⟩)
        (case wTP => decide)
      case eTO =>
        refine' ⟨_, _, _, YY.tab_mk KX G ?aTO ?lTO ?iTO ?wTO⟩
        (case aTO => k_is); (case lTO => k_is)
        (case iTO => exact ⟨⟨_, _, rfl, rfl⟩, ⟨_, _, rfl, rfl⟩, True.intro⟩)
        (case wTO => decide)
      case eSX =>
        refine' YY.src_mk KX G ?zs0 ?zs1 ?zs2 ?zs3 ?zs4 ?zs5 ?zs6 ?zs7 ?zs8 ?zs9 ?zs10 ?zs11 ?zs12 ?zs13 ?zs14 ?zic ?znf ?zne ?zob ?zm
        (case zs0 => k_is); (case zs1 => k_is); (case zs2 => k_is); (case zs3 => k_is); (case zs4 => k_is); (case zs5 => k_is); (case zs6 => k_is); (case zs7 => k_is); (case zs8 => k_is); (case zs9 => k_is); (case zs10 => k_is); (case zs11 => k_is); (case zs12 => k_is); (case zs13 => k_is); (case zs14 => k_is); (case zic => exact ⟨by k_is, by k_is, by k_is, by k_is, YY.kit_no "tuple" (by k_is) (by k_is) (by k_is)⟩); (case znf => k_is); (case zne => k_is); (case zob => k_is)
        case zm =>
          constructor
          · refine' YY.methd_mk (m := "__eq__") (q := "Source.__eq__") (st := YY.sSEq) ?ma3 ?mi3 ?mk3 ?ml3 ?mc3 (fun _ _ _ _ _ _ us hl => match us, hl with | [_, _], _ => rfl)
            (case ma3 => k_is); (case mi3 => k_is); (case mk3 => k_is); (case ml3 => k_is); (case mc3 => k_is)
