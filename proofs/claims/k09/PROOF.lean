import PyProof.Rows.All
import Wide.All
import OpenK.AllK
import Wide.FinOn
import PyProof.EqAt
import PyProof.EqKinds
import PyProof.TupleCall
import HandS.Base
import HandS.Call
import HandS.List
import HandS.Comp
import HandS.Ends
import HandS.Words
import HandS.Walk
import HandS.Dict
import HandS.TupAny
import HandS.Style
import HandS.Exc
import HandS.WordsExc
import PyProof.ReprRoads
import HandS.TryMany
import HandS.ExcField
import HandS.ExcInit
import HandS.MakeKwOnly
import HandS.IsInst
import HandS.Text
import HandS.Iter
import HandS.Zip
import HandS.More
import KE.GoesEnum
import KE.GoesZip
import KE.GoesMore
import PyProof.ListStr
import HandS.Defaults
import HandS.Strs
import PyProof.Rows.RegFStrParts
import HandS.Small
import PyProof.P3Eq
import PySem.Challenge.RW_partedlanes_k09_data_as_values
import PyProof.NeData
import HandS.Star
import HandS.SetFor
import HandS.DictEq
import HandS.DeepEq
import HandS.DictComp
import HandS.Conv
import HandS.TupMul
import HandS.ClsMeth
import KE.KOpsOwn
import PyProof.ListMulRight
import PyProof.FactsAll.bool
import HandS.FStr
import PyProof.NeKinds
set_option Elab.async false
set_option linter.all false
set_option maxRecDepth 100000
set_option maxHeartbeats 4000000
namespace XX
open PySem PySem.Spec PyProof.Rows L2

/-- a def that stands under its name: its promise sp, kept at level k -/
structure FnC (P : Program) (w : World) (K : PySem.W.Frag) (mg : Str → Option Value) (base : Heap) (CX : CXT) (k : Nat) (x : Str) (ps : List Str) (sp : Sp) : Prop where
  ex : ∃ (f : Addr) (fd : FuncData), FnOk P w K mg base CX k f fd ps sp ∧ mg x = some (.ref f) ∧ PySem.W.keepIn K (.ref f) = true ∧ Binds K fd ps []
/-- a def of the text under its name -/
structure Def (K : PySem.W.Frag) (mg : Str → Option Value) (x : Str) (st : Stmt) (ps : List Str) : Prop where
  ex : ∃ (f : Addr) (fd : FuncData), Fun K x x st f fd ∧ mg x = some (.ref f) ∧ Binds K fd ps []
section
variable {P : Program} {w : World} {K : PySem.W.Frag} {mg : Str → Option Value} {base : Heap}
theorem Def.ok {x : Str} {st : Stmt} {N ps : List Str} {k : Nat} {sp : Sp} (D : Def K mg x st ps) (S : FnScope N ps (defScope st)) (len : ∀ vs H Q E, sp vs H Q E → vs.length = ps.length)
    (hbody : ∀ (f : Addr) (cdv : Value) (A : Around) (outer : List Env) (s : Shared) (H : Hp) (vs : List V) (Q : VK) (E : XK), Room k (A.deeper (envOfC x (defScope st) s.heap.objs.size f cdv)) → sp vs H Q E →
      ∃ t, PSs (cxOf CX0 P w K mg base N x (defScope st) f cdv A outer s H E).nox (defBody st) t ∧ t { nx := fun _ H' => Q .non H', rt := Q } (start N vs) H) : FnC P w K mg base CX0 (k + 1) x ps sp := by
  obtain ⟨f, fd, F, hm, hb⟩ := D.ex
  exact ⟨f, fd, F.ok S len (hbody f), hm, F.kp, hb⟩
theorem FnC.mono {CX : CXT} {j k : Nat} {x : Str} {ps : List Str} {sp : Sp} (c : FnC P w K mg base CX j x ps sp) (h : j ≤ k) : FnC P w K mg base CX k x ps sp := by
  obtain ⟨f, fd, F, r⟩ := c.ex
  exact ⟨f, fd, F.mono h, r⟩
end
section
variable {X : Cx} {k : Nat} {x : Str} {ps : List Str} {sp : Sp} {p pos : Pos} {e : Expr} {es : List Expr} {t : TA}
theorem pe_c (c : FnC X.prog X.w X.K X.mg X.base CX0 k x ps sp) (hr : Room k X.A) (hg : Gl X x) (ha : PA X (e :: es) t) (hdb : (x == ("__debug__" : Str)) = false := by decide)
    (he : starEach (e :: es) X.env = (false, eval e X.env) :: starEach es X.env := by rfl) (hpl : (backTo pos (starEach es X.env)).any (·.1) = false := by rfl) :
    PE X (.Call (.Name x p) (e :: es) [] pos) (tCall sp [] E0 t) := by
  obtain ⟨f, fd, F, hm, hk, hb⟩ := c.ex
  exact pe_call F hr hg hm hk hb .nil pass0 ha hdb he hpl
end
/-- how a def under its name is had from what the head tells -/
theorem def_mk {K : PySem.W.Frag} {h : Heap} {mg : Str → Option Value} {f : Addr} {x : Str} {st : Stmt} {ps : List Str} {oc : Value} {od an : Option Addr} {osl : Array (Option Value)} {kV dc pm cd ct : Value} (X : K.In h) (G : h.Ns mainGlobals mg)
    (a : PySem.W.nsIn K mainGlobals x = some (some (.ref f))) (l : K.lookup f = some ⟨oc, od, .func (PySem.W.fnOf x x (defArgs st) (defBody st) (defScope st) .none kV dc pm an cd ct), osl⟩) (c : PySem.W.codeIn K cd x = true) (kp : PySem.W.keepIn K (.ref f) = true)
    (h : ∀ (kV doc pm : Value) (an : Option Addr) (cdv ct : Value) (us : List Value), us.length = ps.length → bindArgs (PySem.W.fnOf x x (defArgs st) (defBody st) (defScope st) .none kV doc pm an cdv ct) ⟨us, []⟩ = pure (ps.zip us)) : Def K mg x st ps :=
  ⟨f, _, fun_mk l c kp, PySem.W.mg_of X G a, (fun_mk l c kp).binds h⟩
end XX

set_option maxRecDepth 100000
set_option maxHeartbeats 4000000
namespace XX
open PySem PySem.Spec PyProof.Rows L2
/-- a for over J, behind the reading of what it walks -/
def LoopW (J : It) (g : TG) (tb : TS) (D : Ends) (σ : L2.St) (H1 : Hp) : Prop := tFor (fun _ H R => R J H) g tb D σ H1
theorem tFor_eq (wi : TI) (g : TG) (tb : TS) (D : Ends) (σ : L2.St) (H : Hp) : tFor wi g tb D σ H = wi σ H fun J H1 => LoopW J g tb D σ H1 := rfl
theorem loop_it {J : It} {n : Nat} {G : Hp → Prop} {Y : Nat → Hp → V → Hp → Prop} (w : Walk J n G Y) {g : TG} {tb : TS} {D : Ends} {σ : L2.St} {H : Hp} (Pv : Nat → L2.St → Hp → Prop) (h0 : Pv 0 σ H) (hG : ∀ i σ H, i ≤ n → Pv i σ H → G H)
    (hs : ∀ i x σ H H', i < n → Pv i σ H → Y i H x H' → g x σ H' fun σ2 H2 => tb { nx := Pv (i + 1), rt := D.rt, bk := D.nx, ct := Pv (i + 1) } σ2 H2) (hd : ∀ σ H, Pv n σ H → D.nx σ H) : LoopW J g tb D σ H := for_it w Pv h0 hG hs hd
/-- a comprehension over J -/
def LcW (J : It) (g : TG) (tt : TT) (te : TE) (vs : List Nat) (σ : L2.St) (H1 : Hp) (Q : VK) : Prop := tLc (fun _ H R => R J H) g tt te vs σ H1 Q
theorem tLc_eq (wi : TI) (g : TG) (tt : TT) (te : TE) (vs : List Nat) (σ : L2.St) (H : Hp) (Q : VK) : tLc wi g tt te vs σ H Q = wi σ H fun J H1 => LcW J g tt te vs σ H1 Q := rfl
/-- what a turn of a comprehension gives -/
def LcEnd (te : TE) (D : Addr) (Nx : Hp → Prop) (σ : L2.St) (b : Bool) (H : Hp) : Prop := if b = true then te σ H (fun y H' => ∃ acc, H' D = some (HO.lst acc) ∧ acc.length < sizeLine ∧ Nx (upd H' D (HO.lst (acc ++ [y])))) else Nx H
theorem lcw_it {J : It} {n : Nat} {G : Hp → Prop} {Y : Nat → Hp → V → Hp → Prop} (w : Walk J n G Y) {g : TG} {tt : TT} {te : TE} {vs : List Nat} {σ : L2.St} {H1 : Hp} {Q : VK} (Pv : Addr → Nat → Hp → Prop) (h0 : ∀ D, H1 D = none → Pv D 0 (upd H1 D (HO.lst []))) (hG : ∀ D i H, i ≤ n → Pv D i H → G H)
    (hs : ∀ D i x H H', H1 D = none → i < n → Pv D i H → Y i H x H' → g x (wipe σ vs) H' fun σ2 H2 => wipe σ2 vs = wipe σ vs ∧ tt σ2 H2 fun b H3 => LcEnd te D (Pv D (i + 1)) σ2 b H3) (hd : ∀ D H, H1 D = none → Pv D n H → Q (.ref D) H) : LcW J g tt te vs σ H1 Q :=
  fun D hD => lc_it w (Pv D) (h0 D hD) (hG D) (fun i x H H' hi hp hy => hs D i x H H' hD hi hp hy) (fun H hp => hd D H hD hp)
section
variable {CX : CXT} {P : Program} {w : World} {K : PySem.W.Frag} {mg : Str → Option Value} {base : Heap} {N : List Str} {qual : Str} {scope : Scope} {f : Addr} {cd : Value} {A : Around} {outer : List Env} {s : Shared} {H : Hp} {E : XK}
theorem cxOf_K : (cxOf CX P w K mg base N qual scope f cd A outer s H E).K = K := rfl
theorem cxOf_noxK : (cxOf CX P w K mg base N qual scope f cd A outer s H E).nox.K = K := rfl
end
theorem bool_ite_true {α : Sort _} (a b : α) : (if true = true then a else b) = a := if_pos rfl
theorem bool_ite_false {α : Sort _} (a b : α) : (if false = true then a else b) = b := if_neg (by decide)
theorem dec_ite {α : Sort _} {c : Prop} [Decidable c] (a b : α) : (if decide c = true then a else b) = if c then a else b := by
  by_cases h : c <;> simp [h]
theorem ndec_ite {α : Sort _} {c : Prop} [Decidable c] (a b : α) : (if (!decide c) = true then a else b) = if c then b else a := by
  by_cases h : c <;> simp [h]
theorem exists_cons_nil {p : V → V → Prop} {a b : V} : (∃ v w, [a, b] = [v, w] ∧ p v w) = p a b := by
  apply propext
  constructor
  · rintro ⟨v, w, e, h⟩
    cases e
    exact h
  · intro h
    exact ⟨a, b, rfl, h⟩
end XX

set_option maxRecDepth 100000
set_option maxHeartbeats 4000000
namespace XX
open PySem PySem.Spec PyProof.Rows L2
/-! ### a text times a number -/
def strRep (z : Str) (k : Int) : Str := if k < 1 then Str.empty else if (k == 1 || z.length == 0) = true then z else ⟨(List.replicate k.toNat z.cps).foldl (· ++ ·) #[]⟩
theorem repl_size (z : Array Nat) : ∀ (k : Nat) (a : Array Nat), ((List.replicate k z).foldl (· ++ ·) a).size = a.size + k * z.size
  | 0, a => by simp
  | k + 1, a => by
    rw [List.replicate_succ, List.foldl_cons, repl_size z k, Array.size_append, Nat.succ_mul]
    omega
theorem strRep_length (z : Str) (k : Int) : (strRep z k).length = k.toNat * z.length := by
  unfold strRep
  by_cases h : k < 1
  · rw [if_pos h]
    have e : k.toNat = 0 := by omega
    rw [e, Nat.zero_mul]
    rfl
  · rw [if_neg h]
    by_cases c : (k == 1 || z.length == 0) = true
    · rw [if_pos c]
      rw [Bool.or_eq_true] at c
      rcases c with c | c
      · have e : k = 1 := eq_of_beq c
        rw [e]
        simp
      · have e : z.length = 0 := eq_of_beq c
        rw [e, Nat.mul_zero]
    · rw [if_neg c]
      show (List.foldl (· ++ ·) #[] (List.replicate k.toNat z.cps)).size = _
      rw [repl_size]
      show 0 + k.toNat * z.cps.size = k.toNat * z.cps.size
      omega
def rMulS : R2 := fun x y H Q => ∃ (z : Str) (k : Int), x = .str z ∧ y = .int k ∧ 0 ≤ k ∧ k ≤ 100000 ∧ z.length ≤ 100 ∧ Q (.str (strRep z k)) H
theorem op_mulS {X : Cx} : OpR X (binaryOp .Mult) rMulS := by
  intro pins s σ H x y v u Q I rx ry h
  obtain ⟨z, k, rfl, rfl, h0, h1, h2, q⟩ := h
  obtain ⟨t1, rfl⟩ := (show ∃ t, v = Value.str z t from rx)
  obtain ⟨t2, rfl⟩ := (show ∃ t, u = Value.int k t from ry)
  have hmul : z.length * k.toNat ≤ 10000000 := by
    have : z.length * k.toNat ≤ 100 * 100000 := Nat.mul_le_mul h2 (by omega)
    omega
  have hlen : Builtin.Str.tooLong (z.length * k.toNat) = false := by
    unfold Builtin.Str.tooLong
    have := sizeLine_eq
    simp
    omega
  refine PySem.P.mul_str ?_ (fun hk1 hc => ?_) (fun _ _ => hlen) ?_
  · have a1 : ¬ k < -(2 ^ 63 : Int) := by omega
    have a2 : ¬ k ≥ 2 ^ 63 := by omega
    rw [decide_eq_false a1, decide_eq_false a2]
    rfl
  · have hk0 : 0 < k := by omega
    have e : (2 ^ 63 - 1 : Int) / 100000 ≤ (2 ^ 63 - 1) / k := by
      apply Int.le_ediv_of_mul_le hk0
      have : (2 ^ 63 - 1 : Int) / 100000 * k ≤ (2 ^ 63 - 1 : Int) / 100000 * 100000 := Int.mul_le_mul_of_nonneg_left h1 (by decide)
      have e2 : (2 ^ 63 - 1 : Int) / 100000 * 100000 ≤ 2 ^ 63 - 1 := by decide
      omega
    have e3 : (100 : Int) ≤ (2 ^ 63 - 1 : Int) / 100000 := by decide
    omega
  · have hq := q
    unfold strRep at hq
    by_cases c1 : k < 1
    · rw [if_pos c1] at hq ⊢
      exact ⟨by decide, .str Str.empty, H, I.tok _, ⟨_, rfl⟩, hq⟩
    · rw [if_neg c1] at hq ⊢
      by_cases c2 : (k == 1 || z.length == 0) = true
      · rw [if_pos c2] at hq ⊢
        exact ⟨.str z, H, I, ⟨_, rfl⟩, hq⟩
      · rw [if_neg c2] at hq ⊢
        refine ⟨?_, .str _, H, I.tok _, ⟨_, rfl⟩, hq⟩
        show Str.length ⟨List.foldl (· ++ ·) #[] (List.replicate k.toNat z.cps)⟩ ≤ _
        have e : Str.length ⟨List.foldl (· ++ ·) #[] (List.replicate k.toNat z.cps)⟩ = k.toNat * z.length := by
          show (List.foldl (· ++ ·) #[] (List.replicate k.toNat z.cps)).size = _
          rw [repl_size]
          show 0 + k.toNat * z.cps.size = k.toNat * z.cps.size
          omega
        rw [e, Nat.mul_comm, sizeLine_eq]
        omega

/-! ### a tuple backwards -/
theorem fm_congr {α β : Type} {f g : α → Option β} : ∀ {l : List α}, (∀ m ∈ l, f m = g m) → l.filterMap f = l.filterMap g
  | [], _ => rfl
  | a :: l, h => by
    have e := fm_congr (l := l) fun m hm => h m (List.mem_cons_of_mem _ hm)
    rw [List.filterMap_cons, List.filterMap_cons, h a (List.mem_cons_self ..), e]
theorem rev_pick (xs : Array Value) : ((List.range xs.size).filterMap fun (m : Nat) => xs[(((xs.size : Int) - 1) + (m : Int) * (-1)).toNat]?) = xs.toList.reverse := by
  have e : (List.range xs.size).filterMap (fun (m : Nat) => xs[(((xs.size : Int) - 1) + (m : Int) * (-1)).toNat]?) = ((List.range xs.size).map fun k => xs.size - 1 - k).filterMap (xs[·]?) := by
    rw [List.filterMap_map]
    refine fm_congr fun m hm => ?_
    have := List.mem_range.mp hm
    show xs[(((xs.size : Int) - 1) + (m : Int) * (-1)).toNat]? = xs[xs.size - 1 - m]?
    have e2 : (((xs.size : Int) - 1) + (m : Int) * (-1)).toNat = xs.size - 1 - m := by omega
    rw [e2]
  rw [e, PySem.W.krv_range, List.filterMap_reverse, PySem.W.krv_all]
section
variable {prog : Program} {w : World} {A : Around} {E : Value → Shared → Prop} {s : Shared}
open HT in
theorem getItem_tuple_rev {t sl : Addr} {items : Array Value} {vs : Value} {Q : Value → Shared → Prop} (ht : IsTup s.heap t items) (hs : s.heap.IsSliceOf sl .none .none vs) (ps : IsPart vs (some (-1)))
    (h : Q (.ref s.heap.objs.size) { s with heap := s.heap.push { cls := .type "tuple", data := .seq items.toList.reverse.toArray } }) (hsz : items.size ≤ sizeLine) : wpAny (model prog w) A (getItem (.ref t) (.ref sl)) Q E s := by
  have htake : sizeOk (.seq items.toList.reverse.toArray) := by
    show items.toList.reverse.toArray.size ≤ sizeLine
    rw [List.size_toArray, List.length_reverse, Array.length_toList]
    exact hsz
  obtain ⟨os, hos, hcs, hds⟩ := id hs
  have hTs : s.TypeIs (.ref sl) "slice" := ⟨os, hos, hcs⟩
  unfold getItem
  try with_reducible refine wpAny_holding ?_
  first | refine wpAny_bind (wpAny_pure ?_) | skip
  refine wpAny_bind (wpAny_sequenceKey ht.typeIs (by decide) ?_)
  refine wpAny_bind (wpAny_callSpecial?_slot (name := Str.ofString "__getitem__") ht.typeIs PyProof.Rows.slot_tuple_getitem
    (wpAny_call_entry PyProof.Rows.slot_tuple_getitem ht.typeIs entry_tuple_getitem ?_ (args_tuple_getitem _ _)))
  show wpAny _ _ (Builtin.Tuple.tupleItemsOf (.ref t) >>= _) _ _ s
  refine wpAny_bind (tupleItemsOf_ ht ?_)
  refine wpAny_bind (wpAny_typeOf hTs ?_)
  rw [if_pos (by decide)]
  have happ : ∀ {A : Around} {E : Value → Shared → Prop} {R : Int × Int × Nat → Shared → Prop}, R (((items.size : Nat) : Int) - 1, -1, items.size) s → wpAny (model prog w) A (Builtin.Slice.sliceApplied (.ref sl) (pure ((items.size : Nat) : Int))) R E s := by
    intro A E R q
    unfold Builtin.Slice.sliceApplied Builtin.Slice.sliceFields
    refine wpAny_bind (wpAny_bind (wpAny_field hos hds (x := .none) rfl (wpAny_bind (wpAny_field hos hds (x := .none) rfl (wpAny_bind (wpAny_field hos hds (x := vs) rfl (wpAny_pure ?_)))))))
    refine wpAny_bind (slicePart_ ps ?_)
    show wpAny _ _ (if ((-1 : Int) == 0) = true then _ else _) _ _ s
    rw [if_neg (by decide)]
    refine wpAny_bind (slicePart_none (wpAny_bind (slicePart_none (wpAny_bind (wpAny_pure ?_)))))
    have e1 : Builtin.Slice.sliceAdjust none none (-1) ((items.size : Nat) : Int) = (((items.size : Nat) : Int) - 1, -1) := rfl
    show wpAny _ _ (match Builtin.Slice.sliceAdjust none none (-1) ((items.size : Nat) : Int) with | (lo, hi) => pure (lo, (-1 : Int), Builtin.Slice.slicePlaces lo hi (-1))) _ _ s
    rw [e1]
    have e2 : Builtin.Slice.slicePlaces (((items.size : Nat) : Int) - 1) (-1) (-1) = items.size := by
      unfold Builtin.Slice.slicePlaces
      have h1 : ¬ ((-1 : Int) > 0) := by decide
      have h2 : (- -1 : Int) = 1 := by decide
      simp only [h1, if_false, h2, Int.ediv_one]
      split <;> omega
    show wpAny _ _ (pure (((items.size : Nat) : Int) - 1, (-1 : Int), Builtin.Slice.slicePlaces (((items.size : Nat) : Int) - 1) (-1) (-1))) _ _ s
    rw [e2]
    exact wpAny_pure q
  refine wpAny_bind (happ ?_)
  have hno : ¬ ((((items.size : Nat) : Int) - 1 == 0 && (-1 : Int) == 1 && items.size == items.size) = true) := by
    intro q
    rw [Bool.and_eq_true, Bool.and_eq_true] at q
    exact absurd (eq_of_beq q.1.2) (by decide)
  show wpAny _ _ (if (((items.size : Nat) : Int) - 1 == 0 && (-1 : Int) == 1 && items.size == items.size) = true then _ else _) _ _ s
  rw [if_neg hno, rev_pick]
  first
    | exact wpAny_bind (m := Builtin.Tuple.tupleExact _) (wpAny_newObj_type (wpAny_pure ⟨_, rfl, wpAny_pure h⟩) htake)
    | exact wpAny_bind (m := Builtin.Tuple.tupleExact _) (wpAny_newObj_type (wpAny_bind (wpAny_pure (wpAny_pure ⟨_, rfl, wpAny_pure h⟩))) htake)
    | exact wpAny_bind (wpAny_bind (m := Builtin.Tuple.tupleExact _) (wpAny_newObj_type (wpAny_pure (wpAny_pure ⟨_, rfl, wpAny_pure h⟩)) htake))
    | exact wpAny_bind (wpAny_bind (m := Builtin.Tuple.tupleExact _) (wpAny_newObj_type (wpAny_pure ⟨_, rfl, wpAny_pure h⟩) htake))
end
/-- t[::-1], t a tuple -/
def tRevT (K : PySem.W.Frag) (te : TE) : TE := fun σ H Q => te σ H fun x H1 => ∃ a xs, x = .ref a ∧ SqT K H1 a xs ∧ ∀ p, H1 p = none → Q (.ref p) (upd H1 p (.tup xs.reverse))
theorem pe_revT {X : Cx} {e : Expr} {te : TE} {k : Nat} {p1 p2 p3 pos : Pos} (he : PE X e te) : PE X (.Subscript e (.Slice none none (some (.UnaryOp .USub (.Constant (.int 1) k p1) p2)) p3) pos) (tRevT X.K te) := by
  refine ⟨fun pins s σ H Q I h => ?_⟩
  refine Subscript_ (thn (he.run pins s σ H _ I h) fun v s1 ⟨x, H1, I1, r1, q1⟩ => ?_)
  obtain ⟨a, xs, ex, hx, q⟩ := q1
  subst ex
  cases r1
  have hst : PO X (some (.UnaryOp .USub (.Constant (.int 1) k p1) p2)) (tPart (tUn (rU fun i => .int (-i)) (tC (.int 1)))) := po_some (pe_un un_neg pe_int)
  refine wpAny_Slice (thn (po_none.run pins s1 σ H1 (fun o H2 => o = none ∧ H2 = H1) I1 ⟨rfl, rfl⟩) fun vl s2 ⟨l, H2, I2, pl, el, e2⟩ => ?_)
  subst el e2
  refine thn (po_none.run pins s2 σ H2 (fun o H3 => o = none ∧ H3 = H2) I2 ⟨rfl, rfl⟩) fun vu s3 ⟨u, H3, I3, pu, eu, e3⟩ => ?_
  subst eu e3
  refine thn (hst.run pins s3 σ H3 (fun o H4 => o = some (-1) ∧ H4 = H3) I3 ⟨1, rfl, -1, rfl, rfl, rfl⟩) fun vs s4 ⟨o, H4, I4, ps, eo, e4⟩ => ?_
  subst eo e4
  have I5 : Inv X pins σ H4 { s4 with heap := s4.heap.push { cls := .type "slice", data := .fields #[vl, vu, vs] } } := I4.kept (t' := s4.toks) fun b ob q => Heap.get?_push_of_some _ q
  obtain ⟨its, r, ht, hz⟩ := I5.tuple hx
  have hlen := r.length
  cases pl
  cases pu
  show wpAny (model X.prog X.w) X.A (subscriptTail e (.Slice none none (some (.UnaryOp .USub (.Constant (.int 1) k p1) p2)) p3) (.ref a) (.ref s4.heap.objs.size)) (EP X pins σ Q) X.xe { s4 with heap := s4.heap.push { cls := .type "slice", data := .fields #[.none, .none, vs] } }
  refine tail_any (ops := [.ref a, .ref s4.heap.objs.size]) ht.typeIs PyProof.Rows.slot_tuple_getitem.lookup (getItem_tuple_rev ht (Heap.IsSliceOf.new _ _ _ vs) ps ?_ (by rw [List.size_toArray, ← hlen]; exact hz)) (by with_unfolding_all rfl)
  refine ⟨.ref _, _, I5.laid (t' := s4.toks) (o := .tup xs.reverse) (fun b ob q => Heap.get?_push_of_some _ q) (Nat.le_refl _) ⟨by rw [List.length_reverse]; exact hz, _, r.reverse, IsTup.new _ _⟩, rfl, q _ (I5.hok.fresh (Nat.le_refl _))⟩

/-! ### a cut between two statements -/
def tCut (t u : TS) : TS := fun D σ H => ∃ I : L2.St → Hp → Prop, t { nx := I, rt := D.rt, bk := D.bk, ct := D.ct } σ H ∧ ∀ τ G, I τ G → u D τ G
theorem pss_cut {X : Cx} {st : Stmt} {rest : List Stmt} {t u : TS} (h1 : PS X st t) (h2 : PSs X rest u) : PSs X (st :: rest) (tCut t u) := by
  refine ⟨fun pins s σ H D J q => ?_⟩
  obtain ⟨I, q1, q2⟩ := q
  refine wpAny_execs_cons (thn (h1.run pins s σ H _ J q1) fun f s1 r => ?_)
  match f, r with
  | .next, ⟨τ, G, J1, r1⟩ => exact h2.run pins s1 τ G D J1 (q2 τ G r1)
  | .brk, r => exact r
  | .cont, r => exact r
  | .ret u, r => exact r
end XX

set_option maxRecDepth 100000
set_option maxHeartbeats 4000000
namespace XX
open PySem PySem.Spec PyProof.Rows L2
/-! ### promises of defs that are kept where no object is being shown (repr) -/
structure FnG (P : Program) (w : World) (K : PySem.W.Frag) (mg : Str → Option Value) (base : Heap) (CX : CXT) (k : Nat) (f : Addr) (fd : FuncData) (ps : List Str) (sp : Sp) : Prop where
  lenG : ∀ vs H Q E, sp vs H Q E → vs.length = ps.length
  runG : ∀ (A : Around) (outer : List Env) (s : Shared) (H : Hp) (args : Args) (us : List Value) (vs : List V) (Q : VK) (E : XK), A.guards = some [] → Room k A → Env0 P w K mg base A outer s H →
    BindsTo s fd args (ps.zip us) → Vals vs us → sp vs H Q E → codeAny (model P w) A (.call (.ref f) args) (CR CX outer P w H s Q E) s
structure FnD (P : Program) (w : World) (K : PySem.W.Frag) (mg : Str → Option Value) (base : Heap) (CX : CXT) (k : Nat) (x : Str) (ps : List Str) (sp : Sp) : Prop where
  ex : ∃ (f : Addr) (fd : FuncData), FnG P w K mg base CX k f fd ps sp ∧ mg x = some (.ref f) ∧ PySem.W.keepIn K (.ref f) = true ∧ Binds K fd ps []
section
variable {P : Program} {w : World} {K : PySem.W.Frag} {mg : Str → Option Value} {base : Heap}
theorem guards_deeper {A : Around} {env : Env} (h : A.guards = some []) : (A.deeper env).guards = some [] := h
theorem Def.okG {CX : CXT} {x : Str} {st : Stmt} {N ps : List Str} {k : Nat} {sp : Sp} (D : Def K mg x st ps) (S : FnScope N ps (defScope st)) (len : ∀ vs H Q E, sp vs H Q E → vs.length = ps.length)
    (hbody : ∀ (f : Addr) (cdv : Value) (A : Around) (outer : List Env) (s : Shared) (H : Hp) (vs : List V) (Q : VK) (E : XK), (A.deeper (envOfC x (defScope st) s.heap.objs.size f cdv)).guards = some [] → Room k (A.deeper (envOfC x (defScope st) s.heap.objs.size f cdv)) → sp vs H Q E →
      ∃ t, PSs (cxOf CX P w K mg base N x (defScope st) f cdv A outer s H E) (defBody st) t ∧ t { nx := fun _ H' => Q .non H', rt := Q } (L2.start N vs) H) : FnD P w K mg base CX (k + 1) x ps sp := by
  obtain ⟨f, fd, F, hm, hb⟩ := D.ex
  refine ⟨f, fd, ⟨len, fun A outer s H args us vs Q E hg hr e0 hbd r hsp => ?_⟩, hm, F.kp, hb⟩
  obtain ⟨oc, od, kV, doc, pm, an, cdv, ct, osl, rfl, lk, hcd⟩ := F.ex
  have len0 := len _ _ _ _ hsp
  have hin : K.In s.heap := e0.mod.kin.keeps fun b o q => (e0.bs b o q).1
  have hnl : s.heap.NoLimit := e0.mod.nolimit.keeps fun b o q => (e0.bs b o q).1
  have knd : ∀ y ∈ ps.zip us, (defScope st).names.lookup y.1 = some .local ∨ ((defScope st).names.lookup y.1 = some .cell ∧ ((cellsFrom (s.heap.objs.size + 1) (defScope st).names []).lookup y.1).isSome = true) := by
    rintro ⟨n, v⟩ hy
    exact (S.par n (List.of_mem_zip hy).1).imp id fun q => ⟨q, PySem.W.cellsFrom_some _ _ _ (.inl q)⟩
  refine codeAny_call_function hr.depth (hin _ _ lk) rfl S.co S.gen rfl (PySem.W.codeRec_of hin hcd) (hbd _ _ _ _ (wpAny_newFunctionEnv_cells S.kind knd fun env he s1 x1 => ?_))
  subst he
  refine ⟨hnl.keeps x1.toInCall.keep, codeAny_func ?_⟩
  obtain ⟨t, ht, hq⟩ := hbody f cdv A outer s H vs Q E (guards_deeper hg) (hr.deeper _) hsp
  have fin : ∀ {s' : Shared} {τ : L2.St} {H' : Hp} {v : V} {u : Value}, Inv (cxOf CX P w K mg base N x (defScope st) f cdv A outer s H E) [] τ H' s' → RelV v u → Q v H' → CE outer P w H s Q u s' :=
    fun J rv q => ⟨_, _, J.os, J.bare, J.base, J.hok, rv, q⟩
  refine wpAny_mono (ht.run [] s1 (L2.start N vs) H _ (inv_start S hr.hd e0 len0 r x1) hq) (fun fl s' hs => ?_) fun e s' hs => hs
  match fl, hs with
  | .ret u, ⟨v, τ, H', J, rv, q⟩ => exact fin J rv q
  | .next, ⟨τ, H', J, q⟩ => exact fin (v := V.non) (u := Value.none) J rfl q
  | .brk, ⟨_, _, _, q⟩ => exact q.elim
  | .cont, ⟨_, _, _, q⟩ => exact q.elim
end
section
variable {X : Cx} {CX : CXT} {k : Nat} {x : Str} {ps : List Str} {sp : Sp} {p pos : Pos} {e : Expr} {es : List Expr} {t : TA} {E : XK}
theorem pe_d (c : FnD X.prog X.w X.K X.mg X.base CX k x ps sp) (hgu : X.A.guards = some []) (hr : Room k X.A) (hx : Passes CX X E) (hg : Gl X x) (ha : PA X (e :: es) t) (hdb : (x == ("__debug__" : Str)) = false := by decide)
    (he : starEach (e :: es) X.env = (false, eval e X.env) :: starEach es X.env := by rfl) (hpl : (backTo pos (starEach es X.env)).any (·.1) = false := by rfl) :
    PE X (.Call (.Name x p) (e :: es) [] pos) (tCall sp [] E t) := by
  obtain ⟨f, fd, F, hm, hk, hb⟩ := c.ex
  refine ⟨fun pins s σ H Q I h => wpAny_Call_Name_kw (ld_glob I hg hm (PySem.W.callWith_K (h₀ := X.base) I.ok.mod.kin hk (thn (ha.run pos pins s σ H _ I h) fun us s1 ⟨vs, H1, I1, r, q⟩ => ⟨I1.kIn, ?_⟩) he hpl) hdb)⟩
  have q' : sp vs H1 Q E := List.append_nil vs ▸ q
  have hl : us.length = ps.length := by rw [← Vals.length r]; exact F.lenG _ _ _ _ q'
  have hbd := hb s1 us I1.kIn (by rw [List.append_nil]; exact hl)
  rw [List.append_nil] at hbd
  refine wpAny_call (codeAny_mono (F.runG X.A X.stack s1 H1 ⟨us, []⟩ us vs Q E hgu hr I1.env0 hbd r q') fun r2 s' hq => ?_)
  match r2, hq with
  | .error er, hq => exact hx pins σ H1 s1 er s' I1 hq
  | .ok (.ret u), hq => exact I1.after hq
  | .ok .next, hq => exact False.elim hq
  | .ok .brk, hq => exact False.elim hq
  | .ok .cont, hq => exact False.elim hq
end
/-! ### repr of data -/
def rReprD (K : PySem.W.Frag) : List V → Hp → VK → Prop := fun xs H Q => ∃ (v : V) (d : PyData), xs = [v] ∧ Dp K H v d ∧ d.showable = true ∧ d.hasDict = false ∧ d.depth ≤ 64 ∧ d.shown.length ≤ sizeLine ∧ Q (.str d.shown) H
section
variable {X : Cx}
theorem call_reprD (hg : X.A.guards = some []) (hu : X.A.units + 80 < cLine) : CallR X (.builtin "repr") (rReprD X.K) := by
  intro pins s σ H xs us Q I r h
  obtain ⟨v, d, rfl, hd, h1, h2, h3, h4, q⟩ := h
  obtain ⟨u, rfl, ru⟩ := vals1 r
  obtain ⟨as, rd⟩ := Dp.reads I d v u hd ru
  cases rd with
  | none => exact PySem.P.repr_of_none ⟨.str _, H, I.tok _, ⟨_, rfl⟩, q⟩
  | bool b => exact PySem.P.repr_of_bool ⟨.str _, H, I.tok _, ⟨_, rfl⟩, q⟩
  | int i t => exact PySem.P.repr_of_int (by simpa [PyData.showable] using h1) ⟨.str _, H, I.tok _, ⟨_, rfl⟩, q⟩
  | str x t => exact PySem.P.repr_of_str ⟨.str _, H, I.tok _, ⟨_, rfl⟩, q⟩ (by simpa [PyData.shown] using h4)
  | list a1 a2 a3 a4 => exact repr_of_reads' (.list a1 a2 a3 a4) h1 (fun z => by rw [h2] at z; cases z) hg (by omega) (fun _ _ e => e) (fun h' u tk hk => ⟨.str _, H, I.kept (t' := tk) hk, ⟨_, rfl⟩, q⟩) h4
  | tuple a1 a2 a3 a4 => exact repr_of_reads' (.tuple a1 a2 a3 a4) h1 (fun z => by rw [h2] at z; cases z) hg (by omega) (fun _ _ e => e) (fun h' u tk hk => ⟨.str _, H, I.kept (t' := tk) hk, ⟨_, rfl⟩, q⟩) h4
  | dict a1 a2 a3 a4 a5 => exact absurd h2 (by simp [PyData.hasDict])
end
end XX

set_option maxRecDepth 100000
set_option maxHeartbeats 4000000
namespace XX
open PySem PySem.Spec PyProof.Rows L2
/-- the script's abstract heap: nothing is tracked but, perhaps, the script at a -/
def scriptHp (a : Addr) (ob : Obj) (ns : List Int) : Hp := fun b => if b = a then some (.frz ob (.lst (ns.map V.int))) else none
theorem scriptHp_some {a b : Addr} {ob : Obj} {ns : List Int} {u : HO} (h : scriptHp a ob ns b = some u) : b = a ∧ u = .frz ob (.lst (ns.map V.int)) := by
  unfold scriptHp at h
  by_cases c : b = a
  · rw [if_pos c] at h
    exact ⟨c, (Option.some.inj h).symm⟩
  · rw [if_neg c] at h
    cases h
section
variable {P : Program} {w : World} {K : PySem.W.Frag} {mg mb : Str → Option Value} {CX : CXT} {k : Nat} {fa a : Addr} {fd : FuncData} {x : Str} {sp : Sp} {s₁ : Shared} {vs : List Value} {ns : List Int}
/-- the law's call from an abstract heap H that tracks at most the script -/
theorem law_core (KX : K.In s₁.heap) (hns : s₁.heap.Ns mainGlobals mg) (hb : s₁.heap.Ns builtinsNs mb) (hbb : ∀ x : Str, x ≠ "__name__" → mb x = bootBuiltins x) (hlim : s₁.heap.NoLimit) (hg : s₁.gens = #[])
    (ha : s₁.heap.get? a = some { cls := .type "list", data := .seq vs.toArray }) (hr : Room k callerA)
    (F : ∀ base : Heap, K.In base → base.Ns mainGlobals mg → FnG P w K mg base CX k fa fd [x] sp) (hbind : ∀ (s : Shared) (u : Value), BindsTo s fd ⟨[u], []⟩ [(x, u)])
    {H : Hp} (hsp : sp [.ref a] H (fun v _ => v = .bl true) fun _ _ _ => False) (hCX : ∀ e s', CX [] H s₁ (fun _ _ _ => False) e s' → False) (hO : Only H) (hok : HOk P w H s₁.heap) (hA : ∀ b u, H b = some u → b = a) (hK : ∀ u, H a = some u → K.lookup a = none) :
    codeAny (model P w) callerA (.call (.ref fa) ⟨[.ref a], []⟩) (fun r s' => r = .ok (.ret (.bool true)) ∧ OldK s₁.heap s'.heap ∧ s'.os = s₁.os ∧ AllBare s'.gens) s₁ := by
  have free : ∀ {b : Addr} {o : Obj} {es : Array DictEntry} {ep : Nat}, s₁.heap.get? b = some o → o.data = .dict es ep → H b = none := fun {b o es ep} e d => by
    cases q : H b with
    | none => rfl
    | some u =>
      have e' := hA b u q
      subst e'
      rw [ha] at e
      cases e
      cases d
  have nsH : ∀ {b : Addr} {m : Str → Option Value}, s₁.heap.Ns b m → (hidT s₁.heap H).Ns b m := fun {b m} ⟨o, es, ep, e, d, r⟩ => ⟨o, es, ep, hidT_get e (free e d), d, r⟩
  have kH : K.In (hidT s₁.heap H) := fun b o e => hidT_get (KX b o e) (by
    cases q : H b with
    | none => rfl
    | some u =>
      have e' := hA b u q
      subst e'
      rw [hK u q] at e
      cases e)
  obtain ⟨mc, l1, l2⟩ := hlim
  have md : Mod K mg (hidT s₁.heap H) := ⟨kH, nsH hns, ⟨mb, nsH hb, hbb⟩, ⟨mc, nsH l1, l2⟩⟩
  have e0 : Env0 P w K mg (hidT s₁.heap H) callerA [] s₁ H := ⟨rfl, md, fun b o e => of_hidT e, Nat.le_of_eq (hidT_size _ _), trivial, fun b z => absurd z List.not_mem_nil, hok, .of_eq hg⟩
  refine codeAny_mono ((F _ kH (nsH hns)).runG callerA [] s₁ H ⟨[.ref a], []⟩ [.ref a] [.ref a] _ _ rfl hr e0 (hbind s₁ (.ref a)) (.cons rfl .nil) hsp) fun r s' h => ?_
  match r, h with
  | .error e, h => exact (hCX e s' h).elim
  | .ok .next, h => exact False.elim h
  | .ok .brk, h => exact False.elim h
  | .ok .cont, h => exact False.elim h
  | .ok (.ret u), ⟨v, H', os, bare, un, hok', rv, ev⟩ =>
    have ev' : v = .bl true := ev
    subst ev'
    cases (show u = Value.bool true from rv)
    refine ⟨rfl, OldK.of_keep fun b o e => ?_, os, bare⟩
    rcases hO b with z | ⟨ob, xs, z⟩
    · exact un.keep b o e z List.not_mem_nil List.not_mem_nil
    · obtain ⟨e1, _⟩ := hok b _ z
      obtain ⟨e2, _⟩ := hok' b _ (un.frzs b ob _ z)
      rw [e] at e1
      cases e1
      exact e2
theorem law_callG (KX : K.In s₁.heap) (hns : s₁.heap.Ns mainGlobals mg) (hb : s₁.heap.Ns builtinsNs mb) (hbb : ∀ x : Str, x ≠ "__name__" → mb x = bootBuiltins x) (hlim : s₁.heap.NoLimit) (hg : s₁.gens = #[])
    (ha : s₁.heap.get? a = some { cls := .type "list", data := .seq vs.toArray }) (hi : IntsAre vs ns) (hl : ns.length ≤ sizeLine) (hr : Room k callerA)
    (F : ∀ base : Heap, K.In base → base.Ns mainGlobals mg → FnG P w K mg base CX k fa fd [x] sp) (hbind : ∀ (s : Shared) (u : Value), BindsTo s fd ⟨[u], []⟩ [(x, u)])
    (hsp : ∀ H : Hp, Only H → SqL K H a (ns.map V.int) → sp [.ref a] H (fun v _ => v = .bl true) fun _ _ _ => False) (hCX : ∀ H e s', CX [] H s₁ (fun _ _ _ => False) e s' → False) :
    codeAny (model P w) callerA (.call (.ref fa) ⟨[.ref a], []⟩) (fun r s' => r = .ok (.ret (.bool true)) ∧ OldK s₁.heap s'.heap ∧ s'.os = s₁.os ∧ AllBare s'.gens) s₁ := by
  have rv := vals_of_ints hi
  have lv := hi.length
  cases hk : K.lookup a with
  | some o =>
    have e := KX a o hk
    rw [ha] at e
    cases e
    have O0 : Only (fun _ => none) := fun _ => .inl rfl
    exact law_core KX hns hb hbb hlim hg ha hr F hbind (hsp _ O0 (.inr ⟨_, vs.toArray, _, hk, rfl, rfl, rfl, by rw [List.size_toArray, lv]; exact hl, by simpa using rv⟩)) (hCX _) O0 (fun b u z => nomatch z) (fun b u z => nomatch z) fun u z => nomatch z
  | none =>
    have O1 : Only (scriptHp a { cls := .type "list", data := .seq vs.toArray } ns) := fun b => by
      cases q : scriptHp a { cls := .type "list", data := .seq vs.toArray } ns b with
      | none => exact .inl rfl
      | some u => exact .inr ⟨_, _, by rw [(scriptHp_some q).2]⟩
    refine law_core KX hns hb hbb hlim hg ha hr F hbind (hsp _ O1 (.inl (.inr ⟨_, if_pos rfl⟩))) (hCX _) O1 (fun b u z => ?_) (fun b u z => (scriptHp_some z).1) fun _ _ => hk
    obtain ⟨e1, e2⟩ := scriptHp_some z
    subst e1 e2
    exact ⟨ha, by rw [List.length_map]; exact hl, vs, _, rv, ha⟩
end
theorem walk_ofG {l : PySem.W.OpenLaw} {n k : Nat} {q : Program} {loose : List Str} {XP : (Str → Option Value) → Heap → Prop} {YP : World → Heap → Prop} {d : DefRec} {K : Params → PySem.W.Frag} {CX : World → CXT} {sp : PySem.W.Frag → Sp} {x : Str}
    (hn : l.most = some n) (hn2 : n ≤ sizeLine) (hdf : d.params.defaults = []) (hr : Room k callerA) (hY : ∀ (w : World) (h : Heap), YP w h → (K w.params).In h)
    (F : ∀ (w : World) (mg : Str → Option Value) (fa : Addr) (h : Heap), (K w.params).In h → h.Ns mainGlobals mg → mg d.name = some (.ref fa) →
      ∃ fd : FuncData, (∀ (s : Shared) (u : Value), BindsTo s fd ⟨[u], []⟩ [(x, u)]) ∧ ∀ base : Heap, (K w.params).In base → base.Ns mainGlobals mg → FnG l.prog w (K w.params) mg base (CX w) k fa fd [x] (sp (K w.params)))
    (hsp : ∀ (K : PySem.W.Frag) (H : Hp) (a : Addr) (ns : List Int), ns.length ≤ n → Only H → SqL K H a (ns.map V.int) → sp K [.ref a] H (fun v _ => v = .bl true) fun _ _ _ => False)
    (hCX : ∀ (w : World) (H : Hp) (s : Shared) (e : Value) (s' : Shared), CX w [] H s (fun _ _ _ => False) e s' → False) :
    PySem.W.WalkO q loose XP YP l.row.toRowW d [] (fun f vs => PySem.call f vs) := by
  refine Att.attach_call hn hdf fun w s₀ s₁ mg mb fa o pm cd doc a vs ns G Y ho hd hcd hmg hobj hints hlen hg => ?_
  have KX := hY w _ Y
  obtain ⟨fd, hb, hF⟩ := F w mg fa _ KX G.T.g hmg
  exact law_callG KX G.T.g G.T.b G.T.builtins G.T.nolimit hg hobj hints (Nat.le_trans hlen hn2) hr hF hb (fun H hO hS => hsp _ H a ns hlen hO hS) fun H e s' => hCX w H s₁ e s'
end XX

set_option maxRecDepth 100000
set_option maxHeartbeats 4000000
namespace XX
open PySem PySem.Spec PyProof.Rows L2
/-! ### try: .. except C1 as n: .. except C2 as n: .. -/
abbrev Clause := Value × (Addr → Value → Option Addr → TS)
/-- what the clauses wish of an exception, the first that takes it; slot i is n's -/
def wMA (K : PySem.W.Frag) (i : Nat) (Wout : WX) (D : Ends) : List Clause → WX
  | [] => Wout
  | c :: r => wAs K c.1 i c.2 (wMA K i Wout D r) D
inductive HdsAs (X : Cx) (n : Str) : List ExceptHandler → List Clause → Prop
  | nil : HdsAs X n [] []
  | cons {x : Str} {c : Value} {ts : Addr → Value → Option Addr → TS} {b₀ : Stmt} {suite : List Stmt} {np pos' : Pos} {hds : List ExceptHandler} {l : List Clause} (hc : Names X x c)
      (hsu : ∀ (a : Addr) (oe : Obj) (cls : Value) (d : Option Addr) (pn : List (Addr × Obj)), Zc cls d oe → (∃ vs, oe.data = .fields vs) → PSs (X.suite a ((a, oe) :: pn)) (b₀ :: suite) (ts a cls d)) (r : HdsAs X n hds l) :
      HdsAs X n (.ExceptHandler (some (.Name x np)) (some n) (b₀ :: suite) pos' :: hds) ((c, ts) :: l)
section
variable {X : Cx} {n : Str} {i : Nat} {body : List Stmt} {h₀ : ExceptHandler} {hds : List ExceptHandler} {l : List Clause} {pos : Pos} {tb : WX → TS} {Wout : WX}
theorem ps_try_mas (hs : X.stack = X.env :: X.outer) (hf : X.env.frame = some X.env.locals) (hN : X.N.Nodup) (hi : X.N[i]? = some n) (hln : X.env.kindOf n = some .local) (tk : Takes X Wout)
    (hb : ∀ (W : WX) (pn : List (Addr × Obj)) (xe : Value → Shared → Prop), Takes (X.tr pn xe) W → PassesOwn (model X.prog X.w) X.A X.env xe → PSs (X.tr pn xe) body (tb W))
    (hh : HdsAs X n (h₀ :: hds) l) : PS X (.Try body (h₀ :: hds) [] [] pos) (fun D σ H => tb (wMA X.K i Wout D l) D σ H) := by
  refine ⟨fun pins s σ H D I h => ?_⟩
  have ok := I.ok
  have hfr : X.A.frames = some (X.env :: X.outer) := by rw [ok.frames, hs]
  have hloc : Loc X.env.scope n := .inl hln
  refine wpAny_Try_except (wpAny_mono ((hb (wMA X.K i Wout D l) (X.pn ++ pins) (fun e s₁ => wpAny (model X.prog X.w) X.A (noteFrame e X.env) (fun _ s₂ => wpAny (model X.prog X.w) X.A (setFlight e none) (fun _ s₃ =>
    wpAny (model X.prog X.w) X.A (handleBy e X.env (h₀ :: hds)) (SP X pins D) X.xe s₃) X.xe s₂) X.xe s₁) (fun u s' xx => ?_) PassesOwn.looking).run [] s σ H D (I.toTry _) h) (fun f s1 hsp => ?_) (fun e s1 he => he))
  · obtain ⟨a, B, sI, pins', σ', H', cls, d, rfl, J', nb, up, sky, na, os, ag, w⟩ := xx
    have J : Inv X pins σ' H' sI := J'.ofTry ok
    rw [hs] at sky
    refine Sky.land Zc.steady hfr hf sky fun h3 fl3 up3 => ?_
    have J3 : Inv X pins σ' H' { s' with heap := h3 } := J.landed nb fl3.1 (up.trans up3) os ag
    obtain ⟨oe3, vs3, he3, hz3, hd3⟩ := fl3.there
    have nfr : a ∉ frs (X.env :: X.outer) := fun hm => by
      obtain ⟨_, o', e', hnf⟩ := fl3.2.2.1.mem hm
      rw [he3] at e'
      cases e'
      exact hnf _ hd3
    have nL : a ≠ X.env.locals := fun z => nfr (List.mem_filterMap.mpr ⟨X.env, List.mem_cons_self, by rw [hf, z]⟩)
    have nF : a ∉ X.fs := fun hm => by
      obtain ⟨e, he, q⟩ := List.mem_filterMap.mp hm
      exact nfr (List.mem_filterMap.mpr ⟨e, List.mem_cons_of_mem _ he, q⟩)
    have S3 := J3.suite he3 hd3 na nL nF
    have go : ∀ {hds' : List ExceptHandler} {l' : List Clause}, HdsAs X n hds' l' → wMA X.K i Wout D l' cls d σ' H' →
        wpAny (model X.prog X.w) X.A (handleBy (.ref a) X.env hds') (SP X pins D) X.xe { s' with heap := h3 } := by
      intro hds' l' hk
      induction hk with
      | nil =>
        intro w
        refine wpAny_handleBy_nil ?_
        obtain ⟨k1, k2, k3, oe, vs, T, oT, ts', he, hz, hd, h1, hr⟩ := id fl3
        unfold PySem.passOn
        refine wpAny_bind (wpAny_field he hd h1 ?_)
        rw [if_neg (show ¬ ((Value.ref T == Value.none) = true) from by simp)]
        have fin : wpAny (model X.prog X.w) X.A (setFlight (.ref a) X.env.frame) (fun _ s4 => wpAny (model X.prog X.w) X.A (throw (.ref a) : Sem Flow) (SP X pins D) X.xe s4) X.xe { s' with heap := h3 } := by
          rw [hf]
          refine HandSPX.setFlight_upZ fl3 fun h4 hh4 up4 => wpAny_throw (tk _ _ ?_)
          exact ⟨a, B, sI, pins, σ', H', cls, d, rfl, J, nb, (up.trans up3).trans up4, .inr (.inr (by rw [hs]; exact hh4)), na, os, ag, w⟩
        first
          | exact wpAny_bind (wpAny_pure (wpAny_bind fin))
          | exact wpAny_bind fin
      | @cons x c ts b₀ suite np pos' hds2 l2 hc hsu r ih =>
        rintro ⟨b, hb1, hyes, hno⟩
        refine wpAny_handleBy_cons (codeAny_handlers_test ?_) (by intro q; cases q)
        have LT : PySem.W.Looks (model X.prog X.w) h3 (typeOf (.ref a)) cls := fun A Q E s k q => wpAny_typeOf_ref (k _ _ he3) (by rw [hz3.1]; exact q)
        have LM := PySem.W.exm_one (M := model X.prog X.w) (J3.kIn) LT hb1
        have test : ∀ {Q : Value → Shared → Prop} {E : Value → Shared → Prop}, Q c { s' with heap := h3 } → wpAny (model X.prog X.w) (X.A.mark (some (.ref a))) (eval (.Name x np) X.env) Q E { s' with heap := h3 } := fun {Q E} q => by
          obtain ⟨hg, hdbg, hm | ⟨hm, hv, hnn⟩⟩ := hc
          · exact ld_glob (X := X.suite a ((a, oe3) :: (X.pn ++ pins))) S3 hg hm q hdbg
          · exact ld_blt (X := X.suite a ((a, oe3) :: (X.pn ++ pins))) S3 hg hm hv q hnn hdbg
        refine test (LM.here ?_)
        cases b with
        | true =>
          refine codeAny_handlers_suite_as (HandSPX.lands_againZ fl3 fun h4 fl4 up4 => ?_)
          have J4 : Inv X pins σ' H' { s' with heap := h4 } := J.landed nb fl4.1 ((up.trans up3).trans up4) os ag
          obtain ⟨oe4, vs4, he4, hz4, hd4⟩ := fl4.there
          have S4 := J4.suite he4 hd4 na nL nF
          refine store_ok (X := X.suite a ((a, oe4) :: (X.pn ++ pins))) (v := .ref a) S4 hN hi hloc rfl (fun s5 S5 => ?_) (.inr hln)
          refine wpAny_mono ((hsu a oe4 cls d (X.pn ++ pins) hz4 ⟨_, hd4⟩).run [] s5 _ H' _ S5 (hyes rfl a na)) (fun f s6 hsp => ?_) (fun _ _ z => False.elim z)
          have stop : ∀ {τ : L2.St} {H6 : Hp} {Q : Shared → Prop}, Inv (X.suite a ((a, oe4) :: (X.pn ++ pins))) [] τ H6 s6 → (∀ s7, Inv X pins (τ.set i none) H6 s7 → Q s7) →
              wpAny (model X.prog X.w) X.A (do bindName X.env n .none; unbindBehindTheSuite X.env n pos') (fun _ s7 => Q s7) X.xe s6 := fun {τ H6 Q} S6 hq => gone_ok (S6.unsuite ok) hN hi hln hq
          match f, hsp with
          | .next, ⟨τ, H6, S6, q6⟩ => exact stop S6 fun s7 J7 => ⟨_, _, J7, q6⟩
          | .brk, ⟨τ, H6, S6, q6⟩ => exact stop S6 fun s7 J7 => ⟨_, _, J7, q6⟩
          | .cont, ⟨τ, H6, S6, q6⟩ => exact stop S6 fun s7 J7 => ⟨_, _, J7, q6⟩
          | .ret u, ⟨v6, τ, H6, S6, r6, q6⟩ => exact stop S6 fun s7 J7 => ⟨_, _, _, J7, r6, q6⟩
        | false =>
          show wpAny _ X.A (handleBy (.ref a) X.env hds2) _ _ _
          exact ih (hno rfl)
    exact go hh w
  · match f, hsp with
    | .next, ⟨τ, H', J', q⟩ => exact wpAny_execs_nil ⟨τ, H', J'.ofTry ok, q⟩
    | .brk, ⟨τ, H', J', q⟩ => exact ⟨τ, H', J'.ofTry ok, q⟩
    | .cont, ⟨τ, H', J', q⟩ => exact ⟨τ, H', J'.ofTry ok, q⟩
    | .ret u, ⟨v, τ, H', J', r, q⟩ => exact ⟨v, τ, H', J'.ofTry ok, r, q⟩
end
end XX

set_option maxRecDepth 100000
set_option maxHeartbeats 4000000
namespace XX
open PySem PySem.Spec PyProof.Rows L2
/-! ### the package's errors: an own class under ValueError whose __init__ keeps one value -/
/-- what the written part says of such a class, under the name x, its __init__ (its own or inherited) at fI -/
structure ErrC (K : PySem.W.Frag) (mg : Str → Option Value) (x : Str) (C fI : Addr) : Prop where
  g : mg x = some (.ref C)
  oex : OexC K C
  xf : XfC K C
  ini : PySem.W.findIn K (.ref C) "__init__" = some (some (.ref fI))
  tI : PySem.W.typeIn K (.ref fI) = some (.type "function")
  no : PySem.W.findIn K (.ref C) "value" = some none
/-- its __init__: self.value is told -/
def spErr (K : PySem.W.Frag) : Sp := fun vs H Q _ => ∃ (a C : Addr) (v : V), vs = [.ref a, v] ∧ OexC K C ∧ PySem.W.findIn K (.ref C) "value" = some none ∧ H a = some (exo a C none) ∧
  ∀ dx, H dx = none → dx ≠ a → Q .non (upd (upd H dx (exd dx [("value", v)])) a (exo a C (some dx)))
theorem err_heap {H : Hp} {a dx : Addr} {o1 o2 o3 u : HO} (h : dx ≠ a) (ha : H a = none) : upd (del (upd (upd (upd H a o1) dx o2) a o3) a) dx u = upd H dx u := by
  funext b
  by_cases hb : b = dx
  · rw [hb, upd_same, upd_same]
  · rw [upd_ne hb, upd_ne hb]
    by_cases hc : b = a
    · rw [hc, del_same, ha]
    · rw [del_ne hc, upd_ne hc, upd_ne hb, upd_ne hc]
/-- what raising asks behind its value v: the way out at the error's own dict -/
theorem err_of {K : PySem.W.Frag} {C : Addr} {v : V} {H : Hp} {Q : XK} (oex : OexC K C) (no : PySem.W.findIn K (.ref C) "value" = some none) (h : ∀ d, H d = none → Q (.ref C) (some d) (upd H d (.xd [("value", v)]))) :
    ([v] : List V).length ≤ 1000 ∧ ∀ a, H a = none → spErr K (.ref a :: ([v] ++ [])) (upd H a (exo a C none))
      (fun v' H2 => v' = .non ∧ ∃ (d : Addr) (fs : List (Str × V)), H2 a = some (exo a C (some d)) ∧ H2 d = some (exd d fs) ∧ H d = none ∧ Q (.ref C) (some d) (upd (del H2 a) d (.xd fs))) (fun _ _ _ => False) := by
  refine ⟨(by show 1 ≤ 1000; decide), fun a ha => ⟨a, C, v, rfl, oex, no, upd_same, fun dx hd hne => ⟨rfl, dx, [("value", v)], upd_same, by rw [upd_ne hne, upd_same], ?_, ?_⟩⟩⟩
  · rw [upd_ne hne] at hd
    exact hd
  · rw [upd_ne hne] at hd
    rw [err_heap hne ha]
    exact h dx hd
section
variable {X : Cx} {CX : CXT} {k : Nat} {x : Str} {C fI : Addr} {fd : FuncData} {p pos pos2 : Pos} {e : Expr} {te : TE} {W : WX}
/-- raise x(e) -/
def tErr (K : PySem.W.Frag) (C : Addr) (W : WX) (te : TE) : TS := fun _ σ H => tMkO C (spErr K) [] (tCons te tNil) σ H fun cls d H' => W cls d σ H'
theorem ps_err (T : ErrC X.K X.mg x C fI) (F : FnOk X.prog X.w X.K X.mg X.base CX0 k fI fd ["self", "value"] (spErr X.K)) (hb : Binds X.K fd ["self", "value"] []) (hr : Room (k + 1) X.A) (hc : X.calm = true) (tk : Takes X W) (he : PE X e te) (hg : Gl X x)
    (hdb : (x == ("__debug__" : Str)) = false := by decide) (hs : starEach [e] X.env = [(false, eval e X.env)] := by rfl) (hs0 : starEach (e :: []) X.env = (false, eval e X.env) :: starEach [] X.env := by rfl) (hpl : (backTo pos (starEach [] X.env)).any (·.1) = false := by rfl) :
    PS X (.Raise (some (.Call (.Name x p) [e] [] pos)) none pos2) (tErr X.K C W te) :=
  ps_raise hc tk (pmk_oex T.oex T.ini T.tI F hr hb .nil pass0 hg T.g (pa_cons he pa_nil hs0) hdb hs0 hpl)
end
end XX

set_option maxRecDepth 100000
set_option maxHeartbeats 4000000
namespace XX
open PySem PySem.Spec PyProof.Rows L2
/-! ### values by their data: the type, isinstance -/
def tyOf : PyData → String
  | .none => "NoneType"
  | .bool _ => "bool"
  | .int _ => "int"
  | .str _ => "str"
  | .list _ => "list"
  | .tuple _ => "tuple"
  | .dict _ => "dict"
theorem ty_dp {K : PySem.W.Frag} {H : Hp} {v : V} {d : PyData} (h : Dp K H v d) : TyX K H v (.type (tyOf d)) := by
  cases h with
  | non => exact .base .non
  | bl b => exact .base (.bl b)
  | int i => exact .base (.int i)
  | str x => exact .base (.str x)
  | lst hs _ =>
    rcases hs with (e | ⟨o, e⟩) | ⟨o, its, n, e, c, _⟩
    · exact .base (.lst e)
    · exact .base (.frz e)
    · exact .kList e c
  | tup hs _ =>
    rcases hs with (e | ⟨o, e⟩) | ⟨o, its, n, e, c, _⟩
    · exact .base (.tup e)
    · exact .fTuple e
    · exact .kTuple e c
def isTy (a b : String) : Bool := a == b || (a == "bool" && b == "int")
def knownTy (T : String) : Prop := T = "int" ∨ T = "bool" ∨ T = "str" ∨ T = "tuple" ∨ T = "list"
theorem kitB_is : ∀ a ∈ ["NoneType", "bool", "int", "str", "list", "tuple", "dict"], ∀ b ∈ ["int", "bool", "str", "tuple", "list"], kitB a b = some (isTy a b) := by decide +kernel
theorem tyOf_mem (d : PyData) : tyOf d ∈ ["NoneType", "bool", "int", "str", "list", "tuple", "dict"] := by cases d <;> simp [tyOf]
theorem kit_is {K : PySem.W.Frag} (d : PyData) {T : String} (h : knownTy T) : PySem.W.kitOne K (.type (tyOf d)) (.type T) = some (isTy (tyOf d) T) :=
  kit_ty (kitB_is _ (tyOf_mem d) _ (by rcases h with rfl | rfl | rfl | rfl | rfl <;> simp))
def rIsD (T : String) (K : PySem.W.Frag) : List V → Hp → VK → Prop := fun xs H Q => ∃ (x : V) (d : PyData), xs = [x, .ty T] ∧ Dp K H x d ∧ Q (.bl (isTy (tyOf d) T)) H
theorem CallR.imp {X : Cx} {f : Value} {r r' : List V → Hp → VK → Prop} (h : CallR X f r) (i : ∀ xs H Q, r' xs H Q → r xs H Q) : CallR X f r' := fun pins s σ H xs us Q I rr q => h pins s σ H xs us Q I rr (i _ _ _ q)
theorem call_isD {X : Cx} {T : String} (hT : knownTy T) : CallR X (.builtin "isinstance") (rIsD T X.K) := CallR.imp call_isi fun xs H Q ⟨x, d, e, h, q⟩ => ⟨x, .ty T, _, _, _, e, .ty T, ty_dp h, kit_is d hT, q⟩
theorem ty_int : knownTy "int" := .inl rfl
theorem ty_bool : knownTy "bool" := .inr (.inl rfl)
theorem ty_str : knownTy "str" := .inr (.inr (.inl rfl))
theorem ty_tuple : knownTy "tuple" := .inr (.inr (.inr (.inl rfl)))
theorem pe_ty {X : Cx} {x : Str} {pos : Pos} (T : String) (hg : Gl X x) (hm : X.mg x = none) (hv : bootBuiltins x = some (.type T) := by decide +kernel) (hn : x ≠ "__name__" := by decide) (hd : (x == ("__debug__" : Str)) = false := by decide) : PE X (.Name x pos) (tC (.ty T)) := pe_bltn (v := .ty T) (u := .type T) hg hm hv rfl hn hd
/-- isinstance by a pair of types -/
def rIsD2 (T U : String) (K : PySem.W.Frag) : List V → Hp → VK → Prop := fun xs H Q => ∃ (x : V) (tp : Addr) (d : PyData), xs = [x, .ref tp] ∧ H tp = some (.tup [.ty T, .ty U]) ∧ Dp K H x d ∧ Q (.bl (isTy (tyOf d) T || isTy (tyOf d) U)) H
theorem kit_is2 {K : PySem.W.Frag} (d : PyData) {T U : String} (h : knownTy T) (h2 : knownTy U) : PySem.W.kitAny K (.type (tyOf d)) [.type T, .type U] = some (isTy (tyOf d) T || isTy (tyOf d) U) := by
  refine kitAny_cons (kit_is d h) (fun e => ?_) fun e => by rw [e]; rfl
  rw [e, Bool.false_or]
  refine kitAny_cons (kit_is d h2) (fun e => ?_) fun e => e
  rw [e]
  rfl
theorem call_isD2 {X : Cx} {T U : String} (hT : knownTy T) (hU : knownTy U) : CallR X (.builtin "isinstance") (rIsD2 T U X.K) := CallR.imp call_isiT fun xs H Q ⟨x, tp, d, e, ht, h, q⟩ => ⟨x, tp, _, _, [.type T, .type U], _, e, ht, .cons (.ty _) (.cons (.ty _) .nil), ty_dp h, kit_is2 d hT hU, q⟩
theorem ty_list : knownTy "list" := .inr (.inr (.inr (.inr rfl)))
/-! ### the checks, of data -/
def isWhole : PyData → Bool
  | .int _ => true
  | _ => false
def btw (d : PyData) (lo hi : Int) : Bool := match d with
  | .int i => decide (lo ≤ i) && decide (i ≤ hi)
  | _ => false
def wordS (z : Str) : Bool := decide (1 ≤ z.length) && decide (z.length ≤ 8) && z.cps.toList.all fun c => decide (97 ≤ c ∧ c ≤ 122)
def wordB : PyData → Bool
  | .str z => wordS z
  | _ => false
theorem isTy_int (d : PyData) : isTy (tyOf d) "int" = (match d with | .int _ => true | .bool _ => true | _ => false) := by cases d <;> rfl
theorem isTy_bool (d : PyData) : isTy (tyOf d) "bool" = (match d with | .bool _ => true | _ => false) := by cases d <;> rfl
theorem isTy_str (d : PyData) : isTy (tyOf d) "str" = (match d with | .str _ => true | _ => false) := by cases d <;> rfl
theorem isTy_tuple (d : PyData) : isTy (tyOf d) "tuple" = (match d with | .tuple _ => true | _ => false) := by cases d <;> rfl
theorem isTy_list (d : PyData) : isTy (tyOf d) "list" = (match d with | .list _ => true | _ => false) := by cases d <;> rfl
/-! ### small data -/
mutual
def sm : PyData → Bool
  | .str z => decide (z.length ≤ 1000) && z.cps.all (· < 0x110000)
  | .int i => decide (-10 ≤ i) && decide (i ≤ 1000)
  | .list ds => decide (ds.length ≤ 1000) && sms ds
  | .tuple ds => decide (ds.length ≤ 1000) && sms ds
  | .none => true
  | .bool _ => true
  | .dict _ => false
def sms : List PyData → Bool
  | [] => true
  | d :: ds => sm d && sms ds
end
theorem sms_mem : ∀ {ds : List PyData} {d : PyData}, sms ds = true → d ∈ ds → sm d = true
  | [], d, _, h => nomatch h
  | e :: ds, d, s, h => by
    rw [sms, Bool.and_eq_true] at s
    rcases List.mem_cons.mp h with rfl | h
    · exact s.1
    · exact sms_mem s.2 h
theorem sms_of : ∀ {ds : List PyData}, (∀ d ∈ ds, sm d = true) → sms ds = true
  | [], _ => rfl
  | e :: ds, h => by
    rw [sms, h e (List.mem_cons_self ..), sms_of fun d m => h d (List.mem_cons_of_mem _ m)]
    rfl
theorem sm_str {z : Str} (h : sm (.str z) = true) : z.length ≤ 1000 := by
  rw [sm, Bool.and_eq_true] at h
  exact of_decide_eq_true h.1
mutual
theorem sm_lay : ∀ {d : PyData}, sm d = true → d.canLay0 = true
  | .none, _ => rfl
  | .bool _, _ => rfl
  | .int _, _ => rfl
  | .str z, h => by
    rw [sm, Bool.and_eq_true] at h
    rw [PyData.canLay0]
    exact h.2
  | .list ds, h => by
    rw [sm, Bool.and_eq_true] at h
    rw [PyData.canLay0]
    exact sms_lay h.2
  | .tuple ds, h => by
    rw [sm, Bool.and_eq_true] at h
    rw [PyData.canLay0]
    exact sms_lay h.2
theorem sms_lay : ∀ {ds : List PyData}, sms ds = true → PyData.canLayAll0 ds = true
  | [], _ => rfl
  | d :: ds, h => by
    rw [sms, Bool.and_eq_true] at h
    rw [PyData.canLayAll0, sm_lay h.1, sms_lay h.2]
    rfl
end
theorem sm_shaped {d : PyData} (h : sm d = true) (hd : d.depth ≤ 64) : SeqAt.shaped d = true := by
  unfold SeqAt.shaped
  rw [sm_lay h, decide_eq_true hd]
  rfl
theorem sm_tup {ds : List PyData} (h : sm (.tuple ds) = true) : ds.length ≤ 1000 ∧ sms ds = true := by
  rw [sm, Bool.and_eq_true] at h
  exact ⟨of_decide_eq_true h.1, h.2⟩
theorem sm_lst {ds : List PyData} (h : sm (.list ds) = true) : ds.length ≤ 1000 ∧ sms ds = true := by
  rw [sm, Bool.and_eq_true] at h
  exact ⟨of_decide_eq_true h.1, h.2⟩
def strEq : PyData → PyData → Bool
  | .str x, .str y => x == y
  | _, _ => false
def regsB : PyData → Bool
  | .tuple [a] => wordB a
  | .tuple [a, b] => wordB a && wordB b && !strEq a b
  | _ => false
end XX

set_option maxRecDepth 100000
set_option maxHeartbeats 4000000
namespace XX
open PySem PySem.Spec PyProof.Rows L2
local macro_rules | `(tactic| walk_at "ao") => `(tactic| (delta Addr at *; omega))
/-! ### lists or tuples, by a truth t: a tuple if it is true -/
theorem same_nw {H : Hp} {q : Addr} {o : HO} (e : H q = none) : Same H (upd H q o) := fun b u hb => by
  rw [upd_ne (ne_of_none hb e)]
  exact hb
def SqA (t : Bool) (K : PySem.W.Frag) (H : Hp) (a : Addr) (xs : List V) : Prop :=
  match t with
  | true => SqT K H a xs
  | false => SqL K H a xs
def IsSA (t : Bool) (h : Heap) (a : Addr) (items : Array Value) : Prop :=
  match t with
  | true => h.IsTuple a items
  | false => h.IsList a items
def IsItA (t : Bool) (h : Heap) (it a : Addr) (i : Nat) : Prop :=
  match t with
  | true => h.IsTupleIter it a i
  | false => h.IsListIter it a i
def itObj (t : Bool) (a : Addr) : Obj :=
  match t with
  | true => { cls := .type "tuple_iterator", data := .fields #[.ref a, .int 0 0] }
  | false => { cls := .type "list_iterator", data := .fields #[.ref a, .int 0 0] }
theorem itObj_is {t : Bool} {h : Heap} {it a : Addr} (g : h.get? it = some (itObj t a)) : IsItA t h it a 0 := by
  cases t
  · exact ⟨_, g, rfl, rfl⟩
  · exact ⟨_, g, rfl, rfl⟩
theorem itObj_free (t : Bool) (a : Addr) : (itObj t a).isFreed = false := by cases t <;> rfl
theorem IsItA.at {t : Bool} {h h' : Heap} {it a : Addr} {i : Nat} (x : IsItA t h it a i) (k : ∀ o, h.get? it = some o → h'.get? it = some o) : IsItA t h' it a i := by
  cases t
  · exact Heap.IsListIter.at (show h.IsListIter it a i from x) k
  · exact Heap.IsTupleIter.at (show h.IsTupleIter it a i from x) k
theorem IsItA.obj {t : Bool} {h : Heap} {it a : Addr} {i : Nat} (x : IsItA t h it a i) : ∃ o vs, h.get? it = some o ∧ o.data = .fields vs := by
  cases t
  · obtain ⟨o, ho, _, hd⟩ := (show h.IsListIter it a i from x)
    exact ⟨o, _, ho, hd⟩
  · obtain ⟨o, ho, _, hd⟩ := (show h.IsTupleIter it a i from x)
    exact ⟨o, _, ho, hd⟩
theorem sqA_its {X : Cx} {pins : List (Addr × Obj)} {σ : L2.St} {H : Hp} {s : Shared} {t : Bool} {a : Addr} {xs : List V} (I : Inv X pins σ H s) (h : SqA t X.K H a xs) : ∃ its : List Value, Vals xs its ∧ IsSA t s.heap a its.toArray ∧ a < s.heap.objs.size := by
  cases t
  · obtain ⟨its, rv, p, _⟩ := I.list (show SqL X.K H a xs from h)
    exact ⟨its, rv, p.isList, p.lt⟩
  · obtain ⟨its, rv, p, _⟩ := I.tuple (show SqT X.K H a xs from h)
    obtain ⟨o, ho, _⟩ := id p
    exact ⟨its, rv, p, Heap.lt_size ho⟩
theorem sqA_inj {X : Cx} {pins : List (Addr × Obj)} {σ : L2.St} {H : Hp} {s : Shared} {t : Bool} {a : Addr} {xs ys : List V} (I : Inv X pins σ H s) (h : SqA t X.K H a xs) (h' : SqA t X.K H a ys) : xs = ys := by
  cases t
  · exact I.list_inj h h'
  · exact I.tuple_inj h h'
theorem beginsA (t : Bool) (a : Addr) (items : Array Value) : Begins (.ref a) (itObj t a) (fun h => IsSA t h a items) := by
  cases t
  · exact begins_list a items
  · exact begins_tuple a items
theorem drawsA {prog : Program} {w : World} {A : Around} (t : Bool) (hh : A.handled = none) (it a : Addr) (hne : a ≠ it) (items : Array Value) :
    Draws prog w A it [it, a] items.size (fun i v => items[i]? = some v) (fun i h => IsItA t h it a i ∧ IsSA t h a items) := by
  cases t
  · exact Draws.list hh it a hne items
  · exact Draws.tuple hh it a hne items
/-! ### enumerate of a list or a tuple -/
theorem enum_newB {v : Value} {o : Obj} {G : Heap → Prop} (B : Begins v o G) : Meets (Builtin.«enumerate.__new__» ⟨[.type "enumerate", v], []⟩) (fun _ R s => G s.heap ∧ R (.ok (.ret (.ref (s.heap.push o).objs.size)))
      { s with heap := (s.heap.push o).push { cls := .type "enumerate", data := .fields #[.none, .bool false, .ref s.heap.objs.size, rawInt 0, .none, .none] } }) :=
  .of_wp fun prog w A R s h => by
    obtain ⟨hp, g, d, tk, os⟩ := s
    obtain ⟨hG, q⟩ := h
    have hsub := sub_enumerate
    have q1 : ∀ {A' : Around} {E' Q' : Value → Shared → Prop}, Q' (.ref hp.objs.size) ⟨hp.push o, g, d, tk, os⟩ → wpAny (model prog w) A' (pyIter v) Q' E' ⟨hp, g, d, tk, os⟩ := fun z => B.iter prog w _ _ ⟨hp, g, d, tk, os⟩ _ hG z
    wp_walk
    refine wpAny_stack_any fun st => wpAny_pure ?_
    split
    · rename_i c _ _ _ _ _
      cases hcc : (c == Value.type "enumerate")
      · wp_walk using q1
        exact ⟨_, rfl, q⟩
      · wp_walk using q1
        exact ⟨_, rfl, q⟩
    · wp_walk using q1
      exact ⟨_, rfl, q⟩
theorem call_enumB {prog : Program} {w : World} {A : Around} {E : Value → Shared → Prop} {s : Shared} {v : Value} {o : Obj} {G : Heap → Prop} {Q : Value → Shared → Prop} (B : Begins v o G) (hG : G s.heap)
    (h : ∀ h', IsEnum h' (s.heap.objs.size + 1) s.heap.objs.size 0 .none → h'.get? s.heap.objs.size = some o → h'.objs.size = s.heap.objs.size + 2 → (∀ b u, s.heap.get? b = some u → h'.get? b = some u) → Q (.ref (s.heap.objs.size + 1)) { s with heap := h' }) :
    wpAny (model prog w) A (call (.type "enumerate") [v]) Q E s := by
  refine callType_new F.called_enumerate (by decide) (F.typeCall_enumerate_1 _) (F.newCall_enumerate_1 _) (fun b => F.args_object_init_2 b _) F.entry_enumerate_new (enum_newB B) ⟨hG, ?_⟩
  have hz : (s.heap.push o).objs.size = s.heap.objs.size + 1 := Heap.size_push ..
  have he := Heap.get?_push_size (s.heap.push o) (o := { cls := .type "enumerate", data := .fields #[.none, .bool false, .ref s.heap.objs.size, rawInt 0, .none, .none] }) rfl
  rw [hz] at he
  show _ ∧ _
  rw [hz]
  refine ⟨⟨_, he, rfl⟩, h _ he (Heap.get?_push_of_some _ (Heap.get?_push_size _ B.free)) ?_ (fun b u x => Heap.get?_push_of_some _ (Heap.get?_push_of_some _ x))⟩
  rw [Heap.size_push, hz]
def IteA (t : Bool) (K : PySem.W.Frag) (a : Addr) : It :=
  ⟨fun i H => ∃ (xs : List V) (x : V), SqA t K H a xs ∧ xs[i]? = some x, fun i H v H' => ∃ D x, v = .ref D ∧ H D = none ∧ H' = upd H D (.tup [.int (i : Nat), x]) ∧ ∀ xs, SqA t K H a xs → xs[i]? = some x, fun i H => ∃ xs : List V, SqA t K H a xs ∧ xs.length = i⟩
theorem turn_enumA {P : Program} {w : World} {K : PySem.W.Frag} {elts : List Expr} {kk : Nat} {tpos : Pos} (t : Bool) (a e it : Addr) (hea : e ≠ a) (hia : a ≠ it) (hei : e ≠ it) :
    Turn P w K (.Tuple elts kk tpos) (IteA t K a) [e, it] e (fun i h => (∃ old, IsEnum h e it ((i : Nat) : Int) old) ∧ IsItA t h it a i) where
  mem := List.mem_cons_self ..
  obj := fun i h st b hb => by
    obtain ⟨⟨old, he⟩, hi⟩ := st
    obtain ⟨o, vs, ho, hd⟩ := hi.obj
    rcases List.mem_cons.mp hb with rfl | hb
    · exact ⟨_, he, fun v q => nomatch q⟩
    · rw [List.mem_singleton.mp hb]
      exact ⟨o, ho, fun v q => by rw [hd] at q; cases q⟩
  keep := fun i h h' st k => by
    obtain ⟨⟨old, he⟩, hi⟩ := st
    exact ⟨⟨old, k e (by simp) _ he⟩, hi.at fun o q => k it (by simp) o q⟩
  item := by
    intro X eP ew eK hc i pins s σ H E I hf st hg
    subst eP ew eK
    obtain ⟨⟨old, he⟩, hit⟩ := st
    obtain ⟨xs, x, hq, hx⟩ := hg
    obtain ⟨its, rv, p, hlt⟩ := sqA_its I hq
    obtain ⟨u, hu, ru⟩ := rv.get hx
    have hel : e < s.heap.objs.size := Heap.lt_size he
    have hil : it < s.heap.objs.size := by
      obtain ⟨o, _, ho, _⟩ := hit.obj
      exact Heap.lt_size ho
    have hni : i < its.toArray.size := by
      rw [List.size_toArray]
      exact (List.getElem?_eq_some_iff.mp hu).1
    have hh : X.A.in1.handled = none := I.ok.hd hc
    refine wpAny_pyNext_enum_itemC (drawsA t hh it a hia its.toArray) he ⟨hit, p⟩ hni hei (by simp [hei, hea]) fun z h' tk hz ho hst hT hsz hk => ?_
    have ez : z = u := by
      rw [List.getElem?_toArray, hu] at hz
      exact (Option.some.inj hz).symm
    subst ez
    refine ⟨_, rfl, wpAny_letOwnedTupleGo_enum (s := { s with heap := h', toks := tk + 1 }) ho fun h'' he' sb => ?_⟩
    have hT2 : h''.get? s.heap.objs.size = some { cls := .type "tuple", data := .seq #[.int i tk, z] } := (sb.2 _ (Nat.ne_of_gt hel)).trans hT
    have new : ObjOk X.prog X.w (upd H s.heap.objs.size (.tup [.int (i : Nat), x])) h'' s.heap.objs.size (.tup [.int (i : Nat), x]) := ⟨by show 2 ≤ sizeLine; decide, [.int i tk, z], .cons ⟨_, rfl⟩ (.cons ru .nil), ⟨_, hT2, rfl, _, rfl⟩⟩
    have I1 : Inv X pins σ (upd H s.heap.objs.size (.tup [.int (i : Nat), x])) { s with heap := h'', toks := tk + 1 } := by
      refine I.turnedNew (ch := [e, it]) (fun b ob hb q => ?_) hf (Nat.le_refl _) new
      have b1 : b ≠ e := fun y => hb (by simp [y])
      have b2 : b ≠ it := fun y => hb (by simp [y])
      exact (sb.2 b b1).trans (hk b ob b1 b2 q)
    refine ⟨.ref s.heap.objs.size, _, I1, rfl, ⟨_, x, rfl, I.hok.fresh (Nat.le_refl _), rfl, fun ys hy => ?_⟩, ⟨⟨z, ?_⟩, hst.1.at fun o q => (sb.2 it (Ne.symm hei)).trans q⟩, fun b hb => ?_⟩
    · rw [sqA_inj I hy hq]
      exact hx
    · have e1 : ((i + 1 : Nat) : Int) = (i : Int) + 1 := by omega
      rw [e1]
      exact he'
    · have hb' : b < s.heap.objs.size := by
        rcases List.mem_cons.mp hb with z | hb
        · rw [z]; exact hel
        · rw [List.mem_singleton.mp hb]; exact hil
      rw [upd_ne (Nat.ne_of_lt hb')]
      exact (hf b hb).1
  done := by
    intro X eP ew eK hc i pins s σ H E I hf st hg
    subst eP ew eK
    obtain ⟨⟨old, he⟩, hit⟩ := st
    obtain ⟨xs, hq, hx⟩ := hg
    obtain ⟨its, rv, p, hlt⟩ := sqA_its I hq
    obtain ⟨f0, f1, f2, f3, f4, f5⟩ := hf it (by simp)
    have hn : its.toArray.size = i := by
      rw [List.size_toArray, ← hx]
      exact rv.length.symm
    have hh : X.A.in1.handled = none := I.ok.hd hc
    subst hn
    refine wpAny_pyNext_enum_endD (drawsA t hh it a hia its.toArray) he ⟨hit, p⟩ fun h' eb => ⟨rfl, ?_⟩
    exact I.turned (t' := s.toks) (fun b o hb q => eb b o hb q) f0 f1 f3 f4 f5
  self := fun A i s Q E st h => by
    obtain ⟨⟨_, he⟩, _⟩ := st
    exact wpAny_pyIter_enum he h
def iEnumA (t : Bool) (K : PySem.W.Frag) (ta : TA) : TI := fun σ H R => ta σ H fun vs H1 => ∃ a xs, vs = [.ref a] ∧ SqA t K H1 a xs ∧ R (IteA t K a) H1
theorem pi_enumA {X : Cx} {x : Expr} {ta : TA} {p pos tpos : Pos} {elts : List Expr} {kk : Nat} (t : Bool) (hg : Gl X "enumerate") (hm : X.mg "enumerate" = none) (ha : PA X [x] ta) (hs : starEach [x] X.env = [(false, eval x X.env)] := by rfl) :
    PI X (.Tuple elts kk tpos) (.Call (.Name "enumerate" p) [x] [] pos) (iEnumA t X.K ta) := by
  refine ⟨fun pins s σ H R I h => ?_⟩
  refine Call_ (ld_blt I hg hm boot_enumerate (PyProof.Rows.callWith_type1 (thn (ha.run pos pins s σ H _ I h) fun us s1 ⟨vs, H1, I1, r1, q1⟩ => ?_) hs rfl))
  obtain ⟨a, xs, rfl, hq, q⟩ := q1
  obtain ⟨its, rv, p', hlt⟩ := sqA_its I1 hq
  cases r1 with
  | cons r rr =>
    cases rr
    cases r
    refine call_enumB (beginsA t a its.toArray) p' fun h' he ho hsz hk => wpAny_pyIter_enum he ?_
    have I2 : Inv X pins σ H1 { s1 with heap := h' } := I1.kept (t' := s1.toks) hk
    refine ⟨s1.heap.objs.size + 1, [s1.heap.objs.size + 1, s1.heap.objs.size], _, _, H1, rfl, I2, turn_enumA t a (s1.heap.objs.size + 1) s1.heap.objs.size (by walk_at "ao") (by walk_at "ao") (by walk_at "ao"), ⟨⟨.none, he⟩, itObj_is ho⟩, fun b hb => ?_, q⟩
    have hle : s1.heap.objs.size ≤ b := by
      rcases List.mem_cons.mp hb with z | hb
      · rw [z]; exact Nat.le_add_right _ _
      · rw [List.mem_singleton.mp hb]; exact Nat.le_refl _
    exact I1.fpOk hle (I1.hok.fresh hle)
theorem walk_enumA {t : Bool} {K : PySem.W.Frag} {a : Addr} {xs : List V} : Walk (IteA t K a) xs.length (fun H => SqA t K H a xs) (YPair (fun i => some (.int (i : Nat))) (fun i => xs[i]?)) := by
  refine ⟨fun i H hi h => ⟨xs, xs[i], h, by simp [hi]⟩, fun H h => ⟨xs, h, rfl⟩, fun i H v H' hi h y => ?_⟩
  obtain ⟨D, x, rfl, hD, rfl, hx⟩ := y
  exact ⟨D, _, x, rfl, hD, rfl, rfl, hx xs h⟩
/-! ### zip of two, each a list or a tuple -/
def ItzA (t u : Bool) (K : PySem.W.Frag) (a b : Addr) : It :=
  ⟨fun i H => ∃ (xs ys : List V) (x y : V), SqA t K H a xs ∧ SqA u K H b ys ∧ xs[i]? = some x ∧ ys[i]? = some y,
    fun i H v H' => ∃ D x y, v = .ref D ∧ H D = none ∧ H' = upd H D (.tup [x, y]) ∧ (∀ xs, SqA t K H a xs → xs[i]? = some x) ∧ ∀ ys, SqA u K H b ys → ys[i]? = some y,
    fun i H => ∃ xs ys : List V, SqA t K H a xs ∧ SqA u K H b ys ∧ xs.length = i ∧ ys.length = i⟩
theorem sepA {z TI TO i1 i2 a b : Addr} (h1 : a < i1) (h2 : b < i1) (e2 : i2 = i1 + 1) (e3 : TI = i1 + 2) (e4 : TO = i1 + 3) (e5 : z = i1 + 4) : ZipSep2 z TI TO i1 i2 [i1, a] [i2, b] := by
  subst e2 e3 e4 e5
  constructor <;> (try simp only [List.mem_cons, List.not_mem_nil, or_false, not_or]) <;> first | exact ⟨by walk_at "ao", by walk_at "ao"⟩ | walk_at "ao" | simp
theorem turn_zipA {P : Program} {w : World} {K : PySem.W.Frag} {elts : List Expr} {kk : Nat} {tpos : Pos} (t u : Bool) {a b i1 : Addr} (h1 : a < i1) (h2 : b < i1) :
    Turn P w K (.Tuple elts kk tpos) (ItzA t u K a b) [i1 + 4, i1 + 2, i1 + 3, i1, i1 + 1] (i1 + 4) (fun i h => IsZip h (i1 + 4) (i1 + 2) (i1 + 3) .none ∧ IsTupOf2 h (i1 + 2) (.ref i1) (.ref (i1 + 1)) ∧ (∃ x y, IsTupOf2 h (i1 + 3) x y) ∧ IsItA t h i1 a i ∧ IsItA u h (i1 + 1) b i) where
  mem := List.mem_cons_self ..
  obj := fun i h st c hc => by
    obtain ⟨hz, hI, ⟨x, y, hO⟩, g1, g2⟩ := st
    obtain ⟨o1, v1, e1, d1⟩ := g1.obj
    obtain ⟨o2, v2, e2, d2⟩ := g2.obj
    simp only [List.mem_cons, List.not_mem_nil, or_false] at hc
    rcases hc with rfl | rfl | rfl | rfl | rfl
    · exact ⟨_, hz, fun v q => nomatch q⟩
    · exact ⟨_, hI, fun v q => nomatch q⟩
    · exact ⟨_, hO, fun v q => nomatch q⟩
    · exact ⟨o1, e1, fun v q => by rw [d1] at q; cases q⟩
    · exact ⟨o2, e2, fun v q => by rw [d2] at q; cases q⟩
  keep := fun i h h' st k => by
    obtain ⟨hz, hI, ⟨x, y, hO⟩, g1, g2⟩ := st
    exact ⟨k _ (by simp) _ hz, k _ (by simp) _ hI, ⟨x, y, k _ (by simp) _ hO⟩, g1.at fun o q => k _ (by simp) o q, g2.at fun o q => k _ (by simp) o q⟩
  item := by
    intro X eP ew eK hc i pins s σ H E I hf st hg
    subst eP ew eK
    obtain ⟨hz, hI, ⟨x0, y0, hO⟩, g1, g2⟩ := st
    obtain ⟨xs, ys, x, y, qx, qy, hx, hy⟩ := hg
    obtain ⟨its, rv, p, _⟩ := sqA_its I qx
    obtain ⟨its2, rv2, p2, _⟩ := sqA_its I qy
    obtain ⟨v, hv, ru⟩ := rv.get hx
    obtain ⟨v2, hv2, ru2⟩ := rv2.get hy
    have hzl : i1 + 4 < s.heap.objs.size := Heap.lt_size hz
    have n1 : i < its.toArray.size := by
      rw [List.size_toArray]
      exact (List.getElem?_eq_some_iff.mp hv).1
    have n2 : i < its2.toArray.size := by
      rw [List.size_toArray]
      exact (List.getElem?_eq_some_iff.mp hv2).1
    have hh : X.A.in1.handled = none := I.ok.hd hc
    refine wpAny_pyNext_zipD2_item (sepA h1 h2 rfl rfl rfl rfl) (drawsA t hh i1 a (by walk_at "ao") its.toArray) (drawsA u hh (i1 + 1) b (by walk_at "ao") its2.toArray) hz hI hO ⟨g1, p⟩ ⟨g2, p2⟩ n1 n2 fun z1 z2 h' tk w1 w2 hz' hO' st1 st2 hT hsz hk => ?_
    have ez : z1 = v := by
      rw [List.getElem?_toArray, hv] at w1
      exact (Option.some.inj w1).symm
    have ez2 : z2 = v2 := by
      rw [List.getElem?_toArray, hv2] at w2
      exact (Option.some.inj w2).symm
    subst ez ez2
    refine ⟨_, rfl, wpAny_letOwnedTupleGo_zip (s := { s with heap := h', toks := tk }) hz' fun h'' z'' sb => ?_⟩
    have hT2 : h''.get? s.heap.objs.size = some { cls := .type "tuple", data := .seq #[z1, z2] } := (sb.2 _ (Nat.ne_of_gt hzl)).trans hT
    have new : ObjOk X.prog X.w (upd H s.heap.objs.size (.tup [x, y])) h'' s.heap.objs.size (.tup [x, y]) := ⟨by show 2 ≤ sizeLine; decide, [z1, z2], .cons ru (.cons ru2 .nil), ⟨_, hT2, rfl, _, rfl⟩⟩
    have I1 : Inv X pins σ (upd H s.heap.objs.size (.tup [x, y])) { s with heap := h'', toks := tk } := by
      refine I.turnedNew (ch := [i1 + 4, i1 + 2, i1 + 3, i1, i1 + 1]) (fun c o hb q => ?_) hf (Nat.le_refl _) new
      simp only [List.mem_cons, List.not_mem_nil, or_false, not_or] at hb
      exact (sb.2 c hb.1).trans (hk c o hb.1 hb.2.2.1 hb.2.2.2.1 hb.2.2.2.2 q)
    have ne : ∀ {c : Addr}, c < i1 + 4 → h''.get? c = h'.get? c := fun {c} l => sb.2 c (by walk_at "ao")
    refine ⟨.ref s.heap.objs.size, _, I1, rfl, ⟨_, x, y, rfl, I.hok.fresh (Nat.le_refl _), rfl, fun l hl => ?_, fun l hl => ?_⟩, ⟨z'', ?_, ⟨z1, z2, ?_⟩, st1.1.at fun o q => ?_, st2.1.at fun o q => ?_⟩, fun c hcm => ?_⟩
    · rw [sqA_inj I hl qx]
      exact hx
    · rw [sqA_inj I hl qy]
      exact hy
    · exact (ne (by walk_at "ao")).trans (hk _ _ (by walk_at "ao") (by walk_at "ao") (by walk_at "ao") (by walk_at "ao") hI)
    · exact (ne (by walk_at "ao")).trans hO'
    · exact (ne (by walk_at "ao")).trans q
    · exact (ne (by walk_at "ao")).trans q
    · have hlt : c < s.heap.objs.size := by
        simp only [List.mem_cons, List.not_mem_nil, or_false] at hcm
        clear I1 new hT2 hT
        rcases hcm with z | z | z | z | z <;> rw [z]
        · exact hzl
        all_goals exact Nat.lt_of_le_of_lt (by first | exact Nat.le_add_right _ _ | exact Nat.add_le_add_left (by decide) _) hzl
      rw [upd_ne (Nat.ne_of_lt hlt)]
      exact (hf c hcm).1
  done := by
    intro X eP ew eK hc i pins s σ H E I hf st hg
    subst eP ew eK
    obtain ⟨hz, hI, ⟨x0, y0, hO⟩, g1, g2⟩ := st
    obtain ⟨xs, ys, qx, qy, lx, ly⟩ := hg
    obtain ⟨its, rv, p, _⟩ := sqA_its I qx
    obtain ⟨its2, rv2, p2, _⟩ := sqA_its I qy
    have n1 : i = its.toArray.size := by
      rw [List.size_toArray, ← lx]
      exact rv.length
    have n2 : i = its2.toArray.size := by
      rw [List.size_toArray, ← ly]
      exact rv2.length
    have hh : X.A.in1.handled = none := I.ok.hd hc
    refine wpAny_pyNext_zipD2_end (sepA h1 h2 rfl rfl rfl rfl) (drawsA t hh i1 a (by walk_at "ao") its.toArray) (drawsA u hh (i1 + 1) b (by walk_at "ao") its2.toArray) hz hI hO ⟨g1, p⟩ ⟨g2, p2⟩ (by walk_at "ao") (by walk_at "ao") (.inl n1) fun h' tk hk => ⟨rfl, ?_⟩
    refine I.turnedL (ch := [i1 + 4, i1 + 2, i1 + 3, i1, i1 + 1]) (fun c o hb q => ?_) hf
    simp only [List.mem_cons, List.not_mem_nil, or_false, not_or] at hb
    exact hk c o hb.1 hb.2.2.1 hb.2.2.2.1 hb.2.2.2.2 q
  self := fun A i s Q E st h => wpAny_pyIter_zip st.1 h
def iZipB (t u : Bool) (K : PySem.W.Frag) (ta : TA) : TI := fun σ H R => ta σ H fun vs H1 => ∃ a b xs ys, vs = [.ref a, .ref b] ∧ SqA t K H1 a xs ∧ SqA u K H1 b ys ∧ R (ItzA t u K a b) H1
theorem pi_zipB {X : Cx} {x x2 : Expr} {ta : TA} {p pos tpos : Pos} {elts : List Expr} {kk : Nat} (t u : Bool) (hg : Gl X "zip") (hm : X.mg "zip" = none) (ha : PA X [x, x2] ta)
    (hs : starEach [x, x2] X.env = (false, eval x X.env) :: starEach [x2] X.env := by rfl) (hpl : (backTo pos (starEach [x2] X.env)).any (·.1) = false := by rfl) : PI X (.Tuple elts kk tpos) (.Call (.Name "zip" p) [x, x2] [] pos) (iZipB t u X.K ta) := by
  refine ⟨fun pins s σ H R I h => ?_⟩
  refine Call_ (ld_blt I hg hm PyProof.Rows.boot_zip (PyProof.Rows.callWith_type1 (thn (ha.run pos pins s σ H _ I h) fun us s1 ⟨vs, H1, I1, r1, q1⟩ => ?_) hs hpl))
  obtain ⟨a, b, xs, ys, rfl, qx, qy, q⟩ := q1
  obtain ⟨its, rv, p1, l1⟩ := sqA_its I1 qx
  obtain ⟨its2, rv2, p2, l2⟩ := sqA_its I1 qy
  cases r1 with
  | cons r rr =>
    cases rr with
    | cons r' rr =>
      cases rr
      cases r
      cases r'
      refine zip_begins2 (beginsA t a its.toArray) (beginsA u b its2.toArray) p1 p2 fun h' hz hI hO k1 k2 hsz hk => wpAny_pyIter_zip hz ?_
      have I2 : Inv X pins σ H1 { s1 with heap := h' } := I1.kept (t' := s1.toks) hk
      refine ⟨s1.heap.objs.size + 4, _, _, _, H1, rfl, I2, turn_zipA t u l1 l2, ⟨hz, hI, ⟨_, _, hO⟩, itObj_is k1, itObj_is k2⟩, fun c hcm => ?_, q⟩
      have hle : s1.heap.objs.size ≤ c := by
        simp only [List.mem_cons, List.not_mem_nil, or_false] at hcm
        walk_at "ao"
      exact I1.fpOk hle (I1.hok.fresh hle)
theorem walk_zipB {t u : Bool} {K : PySem.W.Frag} {a b : Addr} {xs ys : List V} (e : xs.length = ys.length) : Walk (ItzA t u K a b) xs.length (fun H => SqA t K H a xs ∧ SqA u K H b ys) (YPair (fun i => xs[i]?) (fun i => ys[i]?)) := by
  refine ⟨fun i H hi h => ⟨xs, ys, xs[i], ys[i], h.1, h.2, by simp [hi], by simp [e ▸ hi]⟩, fun H h => ⟨xs, ys, h.1, h.2, rfl, e.symm⟩, fun i H v H' hi h y => ?_⟩
  obtain ⟨D, x, y, rfl, hD, rfl, hx, hy⟩ := y
  exact ⟨D, x, y, rfl, hD, rfl, hx xs h.1, hy ys h.2⟩
/-! ### comprehensions whose turns only bring new things: turn i gives u i, or nothing -/
theorem same_mut {H G : Hp} {D : Addr} {o : HO} (h : Same H G) (e : H D = none) : Same H (upd G D o) := fun b u hb => by
  rw [upd_ne (ne_of_none hb e)]
  exact h b u hb
theorem range_filterMap (u : Nat → Option V) (i : Nat) : (List.range (i + 1)).filterMap u = (List.range i).filterMap u ++ (u i).toList := by
  rw [List.range_succ, List.filterMap_append]
  congr 1
theorem lcw_gen {J : It} {n : Nat} {G : Hp → Prop} {Y : Nat → Hp → V → Hp → Prop} (w : Walk J n G Y) {g : TG} {tt : TT} {te : TE} {vs : List Nat} {σ : L2.St} {H : Hp} {Q : VK} (u : Nat → Option V) (hn : n ≤ 1000) (hG : ∀ H', Same H H' → G H')
    (hs : ∀ (i : Nat) (x : V) (G1 G2 : Hp) (Nx : Hp → Prop) (Q' : VK), i < n → Same H G1 → Y i G1 x G2 → (∀ y H4, u i = some y → Same G1 H4 → Q' y H4) → (u i = none → ∀ H3, Same G1 H3 → Nx H3) →
      g x (wipe σ vs) G2 fun σ2 H2 => wipe σ2 vs = wipe σ vs ∧ tt σ2 H2 fun b H3 => if b = true then te σ2 H3 Q' else Nx H3)
    (hd : ∀ D G', Same H G' → H D = none → G' D = some (.lst ((List.range n).filterMap u)) → Q (.ref D) G') : LcW J g tt te vs σ H Q := by
  have ll : ∀ i, ((List.range i).filterMap u).length ≤ i := fun i => by
    have e := List.length_filterMap_le u (List.range i)
    rw [List.length_range] at e
    exact e
  refine lcw_it w (fun D i G' => Same H G' ∧ G' D = some (.lst ((List.range i).filterMap u))) (fun D hD => ⟨same_nw hD, upd_same⟩) (fun D i G' _ h => hG G' h.1) (fun D i x G1 G2 hD hi hP hy => ?_) fun D G' hD hP => hd D G' hP.1 hD hP.2
  refine hs i x G1 G2 _ _ hi hP.1 hy (fun y H4 hu h4 => ?_) fun hu H3 h3 => ?_
  · refine ⟨_, h4 D _ hP.2, ?_, same_mut (hP.1.trans h4) hD, ?_⟩
    · have e1 := ll i
      have e2 := sizeLine_eq
      omega
    · rw [upd_same, range_filterMap, hu, Option.toList_some]
  · refine ⟨hP.1.trans h3, ?_⟩
    rw [h3 D _ hP.2, range_filterMap, hu, Option.toList_none, List.append_nil]
end XX

set_option maxRecDepth 100000
set_option maxHeartbeats 4000000
namespace XX
open PySem PySem.Spec PyProof.Rows L2
/-! ### list(text) -/
theorem paired_of {α β : Type} {F : α → β → Prop} : ∀ {l : List α} {m : List β}, l.length = m.length → (∀ (i : Nat) a b, l[i]? = some a → m[i]? = some b → F a b) → Paired F l m
  | [], [], _, _ => .nil
  | [], _ :: _, e, _ => nomatch e
  | _ :: _, [], e, _ => nomatch e
  | a :: l, b :: m, e, h => .cons (h 0 a b rfl rfl) (paired_of (Nat.succ.inj e) fun i a b h1 h2 => h (i + 1) a b h1 h2)
def rListStr : List V → Hp → VK → Prop := fun xs H Q => ∃ z : Str, xs = [.str z] ∧ z.length ≤ sizeLine ∧ ∀ l, H l = none → Q (.ref l) (upd H l (.lst (z.cps.toList.map fun c => V.str ⟨#[c]⟩)))
theorem call_listStr {X : Cx} (hc : X.calm = true) : CallR X (.type "list") rListStr := by
  intro pins s σ H xs us Q I r h
  obtain ⟨z, rfl, hz, q⟩ := h
  obtain ⟨u, rfl, t, rfl⟩ := vals1 r
  refine call_list_str (show X.A.handled = none from I.ok.hd hc) z t (fun h' tk acc' c' hk hS hi => ?_) hz
  have hv : Vals (z.cps.toList.map fun c => V.str ⟨#[c]⟩) acc'.toList := by
    refine paired_of ?_ fun i a b h1 h2 => ?_
    · rw [List.length_map, Array.length_toList, Array.length_toList, hi.1]
    · rw [List.getElem?_map] at h1
      obtain ⟨c, hc, rfl⟩ := Option.map_eq_some_iff.mp h1
      rw [Array.getElem?_toList] at hc h2
      obtain ⟨c2, u, e1, e2⟩ := hi.2 i b h2
      rw [hc] at e1
      cases e1
      exact ⟨u, e2⟩
  have ok : ObjOk X.prog X.w (upd H s.heap.objs.size (.lst (z.cps.toList.map fun c => V.str ⟨#[c]⟩))) h' s.heap.objs.size (.lst (z.cps.toList.map fun c => V.str ⟨#[c]⟩)) := by
    refine ⟨?_, acc'.toList, c', hv, hS⟩
    rw [List.length_map]
    exact hz
  exact ⟨.ref s.heap.objs.size, _, I.laid (t' := tk) hk (Nat.le_refl _) ok, rfl, q _ (I.hok.fresh (Nat.le_refl _))⟩
end XX

set_option maxRecDepth 100000
set_option maxHeartbeats 4000000
namespace XX
open PySem PySem.Spec PyProof.Rows L2
/-! ### data, or an empty dict -/
def DpE (K : PySem.W.Frag) (H : Hp) (v : V) (d : PyData) : Prop := Dp K H v d ∨ (d = .dict [] ∧ ∃ a, v = .ref a ∧ H a = some (.dK []))
theorem ty_dpE {K : PySem.W.Frag} {H : Hp} {v : V} {d : PyData} (h : DpE K H v d) : TyX K H v (.type (tyOf d)) := by
  rcases h with h | ⟨rfl, a, rfl, h⟩
  · exact ty_dp h
  · exact .base (.dK h)
def rIsE2 (T U : String) (K : PySem.W.Frag) : List V → Hp → VK → Prop := fun xs H Q => ∃ (x : V) (tp : Addr) (d : PyData), xs = [x, .ref tp] ∧ H tp = some (.tup [.ty T, .ty U]) ∧ DpE K H x d ∧ Q (.bl (isTy (tyOf d) T || isTy (tyOf d) U)) H
theorem call_isE2 {X : Cx} {T U : String} (hT : knownTy T) (hU : knownTy U) : CallR X (.builtin "isinstance") (rIsE2 T U X.K) := CallR.imp call_isiT fun xs H Q ⟨x, tp, d, e, ht, h, q⟩ => ⟨x, tp, _, _, [.type T, .type U], _, e, ht, .cons (.ty _) (.cons (.ty _) .nil), ty_dpE h, kit_is2 d hT hU, q⟩
/-! ### a new instance of an own class, by keywords, where the call may raise at the slots -/
def tMakeS (C : Addr) (n m : Nat) (sp : Sp) (gV : List V → List V → List V) (E : L2.St → XK) (t tk : TA) : TE := fun σ H Q => t σ H fun vs H1 => tk σ H1 fun zs H2 => vs.length = n ∧ zs.length = m ∧
  ∀ x dx, H2 x = none → H2 dx = none → dx ≠ x → sp (gV (.ref x :: vs) zs) (upd (upd H2 dx (.own x)) x (.ins C dx [])) (fun v H3 => v = .non ∧ Q (.ref x) H3) (E σ)
section
variable {X : Cx} {CX : CXT} {k n : Nat} {f C : Addr} {fd : FuncData} {ps ks : List Str} {sp : Sp} {E : L2.St → XK} {x : Str} {p pos : Pos} {e : Expr} {es : List Expr} {kws : List Keyword} {t tk : TA} {g : List Value → List Value → List Value} {gV : List V → List V → List V}
theorem run_makeS {pins : List (Addr × Obj)} {σ : L2.St} {H : Hp} {s : Shared} {Q : VK} {us ws : List Value} {vs zs : List V} (M : Mk X.K C f) (F : FnOk X.prog X.w X.K X.mg X.base CX k f fd ps sp) (hr : Room (k + 1) X.A) (hb : KBn X.K fd ps (n + 1) ks g gV)
    (hx : PassesAt CX X σ (E σ)) (I : Inv X pins σ H s) (r : Vals vs us) (rz : Vals zs ws) (l1 : vs.length = n) (l2 : zs.length = ks.length)
    (h : ∀ x dx, H x = none → H dx = none → dx ≠ x → sp (gV (.ref x :: vs) zs) (upd (upd H dx (.own x)) x (.ins C dx [])) (fun v H2 => v = .non ∧ Q (.ref x) H2) (E σ))
    (hfr : ∀ (pins : List (Addr × Obj)) (s : Shared) (H' : Hp) (e : Value) (s' : Shared), Inv X pins σ H' s → CX X.stack H' s (E σ) e s' → X.xe e s') :
    wpAny (model X.prog X.w) X.A (call (.ref C) us (ks.zip ws)) (EP X pins σ Q) X.xe s := by
  have fr : ∀ {b : Nat}, s.heap.objs.size ≤ b → H b = none := fun hle => I.hok.fresh hle
  have hq := h (s.heap.objs.size + 1) s.heap.objs.size (fr (Nat.le_succ _)) (fr (Nat.le_refl _)) (Nat.ne_of_lt (Nat.lt_succ_self _))
  have I2 := Inv.made (C := C) I
  have r2 := hb.rel (Paired.cons (F := RelV) (show RelV (.ref (s.heap.objs.size + 1)) (Value.ref (s.heap.objs.size + 1)) from rfl) r) rz
  have lu : (Value.ref (s.heap.objs.size + 1) :: us).length = n + 1 := congrArg Nat.succ (r.length.symm.trans l1)
  have to := hb.to _ _ ws I2.kIn lu (rz.length.symm.trans l2)
  have run := F.run _ X.stack _ _ ⟨Value.ref (s.heap.objs.size + 1) :: us, ks.zip ws⟩ _ _ _ (E σ) (hr.make C us (ks.zip ws)) (I2.env0.make C us (ks.zip ws)) to r2 hq
  refine wpAny_call (make_map (f := f) I.kIn M.makes M.init (beq_iff_eq.mp M.fn) (codeAny_mono run fun rr s' z => ?_))
  match rr, z with
  | .error er, z => exact hfr pins _ _ er s' I2 z
  | .ok (.ret u), z =>
    obtain ⟨v, H', I3, rv, ev, q3⟩ := I2.after z
    subst ev
    exact ⟨rv, ⟨.ref (s.heap.objs.size + 1), H', I3, rfl, q3⟩⟩
  | .ok .next, z => exact False.elim z
  | .ok .brk, z => exact False.elim z
  | .ok .cont, z => exact False.elim z
theorem pe_makeS (M : Mk X.K C f) (F : FnOk X.prog X.w X.K X.mg X.base CX k f fd ps sp) (hr : Room (k + 1) X.A) (hg : Gl X x) (hm : X.mg x = some (.ref C)) (hb : KBn X.K fd ps (n + 1) ks g gV) (hx : ∀ σ, PassesAt CX X σ (E σ)) (ha : PA X (e :: es) t) (hkw : PK X kws tk)
    (h1 : (backToKw pos (keywordEach kws X.env)).all (·.1.isSome) = true := by rfl) (h2 : (backToKw pos (keywordEach kws X.env)).filterMap (·.1) = ks := by rfl) (h3 : (x == ("__debug__" : Str)) = false := by decide)
    (h4 : starEach (e :: es) X.env = (false, eval e X.env) :: starEach es X.env := by rfl) (h5 : ((backTo pos (starEach (e :: es) X.env)).any (·.1) || (backToKw pos (keywordEach kws X.env)).any (·.1.isNone)) = false := by rfl) :
    PE X (.Call (.Name x p) (e :: es) kws pos) (tMakeS C n ks.length sp gV E t tk) := by
  refine ⟨fun pins s σ H Q I h => wpAny_Call_Name_kw (ld_glob I hg hm ?_ h3)⟩
  refine PySem.W.callWith_KW (h₀ := X.base) I.ok.mod.kin M.kp h1 (thn (ha.run pos pins s σ H _ I h) fun us s1 ⟨vs, H1, I1, r, q⟩ => ?_) h5 h4
  refine thn (hkw.run pos pins s1 σ H1 _ I1 q) fun ws s2 ⟨zs, H2, I2, rz, l1, l2, q2⟩ => ⟨I2.kIn, ?_⟩
  rw [h2]
  exact run_makeS M F hr hb (hx σ) I2 r rz l1 l2 q2 fun pins s H' er s' I z => hx σ pins H' s er s' I z
end
end XX

set_option maxRecDepth 100000
set_option maxHeartbeats 4000000
namespace XX
open PySem PySem.Spec PyProof.Rows L2
/-! ### len(set(..)) of a tuple of texts -/
/-- what is in the set behind the first i texts, and how many -/
def metS (xs : List Str) : Nat → (Str → Bool) × Nat
  | 0 => (fun _ => false, 0)
  | i + 1 => ((fun k => (metS xs i).1 k || decide (k = xs.getD i Str.empty)), if (metS xs i).1 (xs.getD i Str.empty) then (metS xs i).2 else (metS xs i).2 + 1)
theorem metS_le (xs : List Str) : ∀ i, (metS xs i).2 ≤ i
  | 0 => Nat.le_refl 0
  | i + 1 => by
    have e := metS_le xs i
    unfold metS
    dsimp only
    by_cases c : (metS xs i).1 (xs.getD i Str.empty) = true
    · rw [if_pos c]
      omega
    · rw [if_neg c]
      omega
section
variable {prog : Program} {w : World} {A : Around} {R : Result → Shared → Prop} {I : Addr} {fp wr : List Addr} {G : Array GenState → Array GenState → Prop} {n : Nat} {P : Nat → Value → Prop} {St : Nat → Shared → Prop}
theorem loopSt (W : WalksS prog w A.in1 I fp wr G n P St) (D : Addr) (nD : D ∉ fp) (xs : List Str) (bn : n + 1 < scanBound) (val : ∀ i v, P i v → ∃ t, v = .str (xs.getD i Str.empty) t) :
    ∀ (k i : Nat) (s : Shared), n - i = k → i ≤ n → St i s → s.heap.SetOf (PySem.strKind prog w) D (metS xs i).1 (metS xs i).2 →
      (∀ s', Moved (D :: wr) G s s' → s'.heap.SetOf (PySem.strKind prog w) D (metS xs n).1 (metS xs n).2 → R (.ok (.ret .none)) s') → codeAny (model prog w) A (.builtin "set.update.loop" ⟨[.ref D, .ref I], []⟩) R s := by
  have nw : D ∉ wr := fun h => nD (W.sub _ h)
  have sb : ∀ b ∈ wr, b ∈ D :: wr := fun b h => List.mem_cons_of_mem _ h
  have stays : ∀ {s s' : Shared} {S : Str → Bool} {c : Nat}, Moved wr G s s' → s.heap.SetOf (PySem.strKind prog w) D S c → s'.heap.SetOf (PySem.strKind prog w) D S c := fun m h => by
    obtain ⟨o, es, ep, tb, ho, r⟩ := h
    exact ⟨o, es, ep, tb, m.heap D _ nw ho, r⟩
  intro k
  induction k with
  | zero =>
    intro i s ek le st hS q
    obtain rfl : i = n := by omega
    refine codeAny_builtin PyProof.Rows.F.entry_set_update_loop (by
      rw [Around.under_plainId PyProof.Rows.F.plain_set_update_loop _]
      refine wpAny_bind (m := pyNext (.ref I)) (W.done s _ _ st fun s' m => ?_)
      exact wpAny_pure (q s' (m.mono sb) (stays m hS)))
  | succ k ih =>
    intro i s ek le st hS q
    have lt : i < n := by omega
    refine codeAny_builtin PyProof.Rows.F.entry_set_update_loop ?_
    rw [Around.under_plainId PyProof.Rows.F.plain_set_update_loop _]
    refine wpAny_bind (m := pyNext (.ref I)) (W.item i s _ _ lt st fun v s' pv st' m => ?_)
    obtain ⟨t, rfl⟩ := val i v pv
    have h1 := stays m hS
    refine wpAny_bind (m := holding [Value.str (xs.getD i Str.empty) t] (setAdd D (.str (xs.getD i Str.empty) t))) (wpAny_holding ?_)
    unfold setAdd
    refine wpAny_holding (wpAny_bind ((PySem.strKind prog w).pyHash (k := xs.getD i Str.empty) (strKind_is _ _ _ _) ?_))
    have room : (metS xs i).2 + 1 < scanBound := by
      have e := metS_le xs i
      omega
    refine wpAny_setAddHashed_of (knd := PySem.strKind prog w) (s := { s' with toks := s'.toks + 1 }) (strKind_is _ _ _ _) rfl h1 room fun h' bt h2 => ?_
    have ne : ∀ {b : Addr}, b ≠ D → h'.get? b = s'.heap.get? b := fun {b} nb => bt.2 b nb
    refine wpAny_pure ⟨plainId_quiet PyProof.Rows.F.plain_set_update_loop _, ih (i + 1) _ (by omega) lt ?_ h2 fun s2 m2 q2 => ?_⟩
    · refine W.frame _ s' _ _ st' (Nat.le_succ _) fun b mb o e => ?_
      rw [ne fun z => nD (by rw [← z]; exact mb)]
      exact e
    · refine q s2 (Moved.trans W.gtrans ((m.mono sb).then_heap (Nat.le_succ _) fun b o nb e => ?_) m2) q2
      rw [ne fun z => nb (by rw [z]; exact List.mem_cons_self)]
      exact e
end
section
variable {prog : Program} {w : World} {A : Around} {E : Value → Shared → Prop} {s : Shared}
theorem call_setSt {l : Addr} {items : Array Value} {xs : List Str} {Q : Value → Shared → Prop} (hh : A.handled = none) (hl : s.heap.IsTuple l items) (hi : PyProof.Rows.StrsAre items.toList xs) (hn : items.size + 1 < scanBound)
    (h : ∀ (h' : Heap) (tk : Nat), h'.SetOf (PySem.strKind prog w) s.heap.objs.size (metS xs items.size).1 (metS xs items.size).2 → (∀ b o, b < s.heap.objs.size → s.heap.get? b = some o → h'.get? b = some o) → Q (.ref s.heap.objs.size) { s with heap := h', toks := tk }) :
    wpAny (model prog w) A (call (.type "set") [.ref l]) Q E s := by
  obtain ⟨c, tl, mro⟩ := PySem.F.called_set.mro
  have f1 := PySem.F.called_set.made
  have f2 := PySem.F.called_set.sub
  have f3 := PySem.F.called_set.notType
  have f4 := PySem.F.called_set.canCreate
  have f5 := PySem.F.typeCall_set_1 (.ref l)
  refine wpAny_call (codeAny_of_tree (by
    show wpAny _ _ (callAny (.type "set") _) _ _ _
    refine wpAny_pure ⟨Code.quiet_builtin _ (by decide +kernel), codeAny_builtin PySem.F.entry_type_call ?_⟩
    rw [Around.under_plain (weight_type_call_type "set" [.ref l] []) rfl]
    repeat (any_goals (first | assumption | wp_step))
    refine codeAny_mono (code_set_new_1 (.ref l) (E := E) (Q₁ := fun ob s₁ => ∃ q : Bool, ob = .ref s.heap.objs.size ∧ s₁ = { s with heap := s.heap.push { cls := .type "set", dict := none, data := .set #[] 0 (.fresh 0 0 q) } }) fun q => ⟨q, rfl, rfl⟩) fun r s₁ hr => ?_
    match r, hr with
    | .error e, hr => exact hr
    | .ok .next, hr => exact hr.elim
    | .ok .brk, hr => exact hr.elim
    | .ok .cont, hr => exact hr.elim
    | .ok (.ret ob), ⟨q, eo, es⟩ =>
      subst eo es
      have g0 : (s.heap.push { cls := .type "set", dict := none, data := .set #[] 0 (.fresh 0 0 q) }).get? s.heap.objs.size = some { cls := .type "set", dict := none, data := .set #[] 0 (.fresh 0 0 q) } := Heap.get?_push_size _ rfl
      have ty : Shared.TypeIs { s with heap := s.heap.push { cls := .type "set", dict := none, data := .set #[] 0 (.fresh 0 0 q) } } (.ref s.heap.objs.size) "set" := ⟨_, g0, rfl⟩
      have i1 := PySem.F.called_set.init.lookup
      have i2 := PySem.F.called_set.init.bind (.ref s.heap.objs.size)
      repeat (any_goals (first | assumption | wp_step))
      refine codeAny_mono (codeAny_call_builtin (R := wants (fun r s₂ => r = .none ∧ ∃ h' tk, s₂ = { s with heap := h', toks := tk } ∧ h'.SetOf (PySem.strKind prog w) s.heap.objs.size (metS xs items.size).1 (metS xs items.size).2 ∧
          (∀ b o, b < s.heap.objs.size → s.heap.get? b = some o → h'.get? b = some o)) E) PySem.F.called_set.init.plain PySem.F.entry_set_init (check_set_init_1 ty ?_)) fun r₂ s₂ hr₂ => ?_
      · obtain ⟨⟨oc, od, odt, osl⟩, hol, hcl, nl, hdl⟩ := hl
        simp only at hcl hdl
        subst hcl hdl
        have g1 : (s.heap.push { cls := .type "set", dict := none, data := .set #[] 0 (.fresh 0 0 q) }).get? l = some { cls := .type "tuple", dict := od, data := .seq items nl, slots := osl } := Heap.get?_push_of_some _ hol
        have s1 := PySem.F.sub_tuple_set
        have s2 := PySem.F.sub_tuple_frozenset
        have s3 : (Value.type "tuple" == Value.type "dict") = false := by decide
        have t1 : (s.heap.push { cls := .type "set", dict := none, data := .set #[] 0 (.fresh 0 0 q) }).IsTuple l items := ⟨_, g1, rfl, nl, rfl⟩
        unfold Builtin.«set.__init__» noKeywords Builtin.Frozenset.updateFrom
        generalize hPI : pyIter = PI
        wp_walk
        subst hPI
        refine wpAny_pyIter_tuple t1 (wpAny_bind (wpAny_runValue ?_))
        have lS : l < s.heap.objs.size := Heap.lt_size hol
        have zp : (s.heap.push { cls := .type "set", dict := none, data := .set #[] 0 (.fresh 0 0 q) }).objs.size = s.heap.objs.size + 1 := Heap.size_push ..
        have h3 : A.in1.in1.in1.handled = none := by simp [hh]
        have nI : l ≠ (s.heap.push { cls := .type "set", dict := none, data := .set #[] 0 (.fresh 0 0 q) }).objs.size := by
          rw [zp]
          exact Nat.ne_of_lt (Nat.lt_succ_of_lt lS)
        have nf : s.heap.objs.size ∉ [(s.heap.push { cls := .type "set", dict := none, data := .set #[] 0 (.fresh 0 0 q) }).objs.size, l] := by
          rw [zp]
          simp only [List.mem_cons, List.not_mem_nil, or_false, not_or]
          exact ⟨Nat.ne_of_lt (Nat.lt_succ_self _), Nat.ne_of_gt lS⟩
        refine loopSt ((Walks.tuple h3 _ l nI items).toS) s.heap.objs.size nf xs hn (fun i v hv => SS.strs_at hi i v (by rw [Array.getElem?_toList]; exact hv)) (items.size - 0) 0 _ (by omega) (Nat.zero_le _) ⟨⟨_, Heap.get?_push_size _ rfl, rfl, rfl⟩, t1.push _⟩ ?_ ?_
        · have g2 : ((s.heap.push { cls := .type "set", dict := none, data := .set #[] 0 (.fresh 0 0 q) }).push { cls := .type "tuple_iterator", data := .fields #[.ref l, .int 0 0] }).get? s.heap.objs.size = some { cls := .type "set", dict := none, data := .set #[] 0 (.fresh 0 0 q) } := Heap.get?_push_of_some _ g0
          exact SetOf_congr ((setObjOf_fresh (knd := PySem.strKind prog w) q).setOf g2 (by unfold scanBound; omega)) (fun _ => rfl) rfl
        · rintro ⟨h', g', d', tk', os'⟩ m hS
          obtain rfl : g' = s.gens := m.gens
          obtain rfl : d' = s.drawn := m.drawn
          obtain rfl : os' = s.os := m.os
          show wpAny _ _ _ _ _ _
          refine wpAny_pure ?_
          show wpAny _ _ (ret Value.none) _ _ _
          refine wpAny_pure ⟨rfl, h', tk', rfl, hS, fun b o hb e => ?_⟩
          refine m.heap b o ?_ (Heap.get?_push_of_some _ (Heap.get?_push_of_some _ e))
          rw [zp]
          simp only [List.mem_cons, List.not_mem_nil, or_false, not_or]
          exact ⟨Nat.ne_of_lt hb, Nat.ne_of_lt (Nat.lt_succ_of_lt hb)⟩
      · match r₂, hr₂ with
        | .error e, hr₂ => exact hr₂
        | .ok .next, hr₂ => exact hr₂.elim
        | .ok .brk, hr₂ => exact hr₂.elim
        | .ok .cont, hr₂ => exact hr₂.elim
        | .ok (.ret r), ⟨er, h', tk, es, hS, hk⟩ =>
          subst er es
          repeat (any_goals (first | assumption | wp_step))
          exact h _ _ hS hk))
end
end XX

set_option maxRecDepth 100000
set_option maxHeartbeats 4000000
namespace XX
open PySem PySem.Spec PyProof.Rows L2
def tLenSetS (K : PySem.W.Frag) (ta : TE) : TE := fun σ H Q => ta σ H fun x H1 => ∃ (l : Addr) (xs : List Str), x = .ref l ∧ SqT K H1 l (xs.map V.str) ∧ xs.length ≤ 1000 ∧ Q (.int ((metS xs xs.length).2 : Nat)) H1
theorem pe_lenSetS {X : Cx} {a : Expr} {ta : TE} {p p2 q pos : Pos} (hc : X.calm = true) (hg : Gl X "len") (hm : X.mg "len" = none) (hg2 : Gl X "set") (hm2 : X.mg "set" = none) (ha : PE X a ta) (na : starEach [a] X.env = (false, eval a X.env) :: starEach [] X.env := by rfl) :
    PE X (.Call (.Name "len" p) [.Call (.Name "set" p2) [a] [] q] [] pos) (tLenSetS X.K ta) := by
  refine ⟨fun pins s σ H Q I h => Call_ (ld_blt I hg hm boot_len (callWith_builtin1 (args_cons (Call_ (ld_blt I hg2 hm2 boot_set ?_)) rfl) rfl rfl))⟩
  refine callWith_type1 (args_cons (thn (ha.run pins s σ H _ I h) fun v s1 ⟨x, H1, I1, r1, q1⟩ => args_nil ?_) na) na rfl
  obtain ⟨l, xs, rfl, hq, h1, q1⟩ := q1
  cases r1
  obtain ⟨its, r, pl, hz⟩ := I1.tuple hq
  have el : its.toArray.size = xs.length := by rw [List.size_toArray, ← r.length, List.length_map]
  refine call_setSt (I1.ok.hd hc) pl (by simpa using strsAre_of r) (by rw [el]; unfold scanBound; omega) fun h' tk hS hk => args_nil ?_
  rw [el] at hS
  have I2 : Inv X pins σ H1 { s1 with heap := h', toks := tk } := I1.kept fun b o e => hk b o (Heap.lt_size e) e
  obtain ⟨o, es, ep, t, ho, hex, hd, _, _, _, hf, hn⟩ := hS
  have le := metS_le xs xs.length
  exact call_len_set ho hex hd hf (by rw [hn]; omega) ⟨.int (metS xs xs.length).2, H1, I2.tok _, ⟨_, by rw [hn]⟩, q1⟩
theorem metS_one (a : Str) : (metS [a] [a].length).2 = 1 := rfl
theorem metS_two (a b : Str) : (metS [a, b] [a, b].length).2 = if a = b then 1 else 2 := by
  show (if (false || decide (b = a)) = true then 1 else 2) = _
  rw [Bool.false_or]
  by_cases c : a = b
  · rw [if_pos c, if_pos (decide_eq_true c.symm)]
  · rw [if_neg c, if_neg]
    intro h
    exact c (of_decide_eq_true h).symm
end XX
namespace XX
open PySem PySem.Spec PyProof.Rows L2
/-- len of a list or tuple, within a comprehension -/
def rLenK (K : PySem.W.Frag) : List V → Hp → VK → Prop := fun xs H Q => ∃ (p : Addr) (ys : List V), xs = [.ref p] ∧ (SqL K H p ys ∨ SqT K H p ys) ∧ Q (.int ys.length) H
theorem call_lenK {X : Cx} (K : PySem.W.Frag) (e : X.K = K) : CallR X (.builtin "len") (rLenK K) := by
  subst e
  exact call_len_seq
/-! ### repr of data, an empty dict too -/
structure Rp (d : PyData) : Prop where
  sh : d.showable = true
  dp : d.depth ≤ 64
  ln : d.shown.length ≤ sizeLine
def rReprE (K : PySem.W.Frag) : List V → Hp → VK → Prop := fun xs H Q => ∃ (v : V) (d : PyData), xs = [v] ∧ DpE K H v d ∧ Rp d ∧ Q (.str d.shown) H
mutual
theorem dp_noDict {K : PySem.W.Frag} {H : Hp} : ∀ (d : PyData) (v : V), Dp K H v d → d.hasDict = false
  | .none, _, _ => rfl
  | .bool _, _, _ => rfl
  | .int _, _, _ => rfl
  | .str _, _, _ => rfl
  | .list ds, _, h => by
    cases h with
    | lst _ ha =>
      rw [PyData.hasDict]
      exact dps_noDict ds _ ha
  | .tuple ds, _, h => by
    cases h with
    | tup _ ha =>
      rw [PyData.hasDict]
      exact dps_noDict ds _ ha
  | .dict _, _, h => nomatch h
theorem dps_noDict {K : PySem.W.Frag} {H : Hp} : ∀ (ds : List PyData) (vs : List V), DpAll K H vs ds → PyData.hasDictAll ds = false
  | [], _, _ => rfl
  | d :: ds, _, h => by
    cases h with
    | cons h1 h2 =>
      rw [PyData.hasDictAll, dp_noDict d _ h1, dps_noDict ds _ h2]
      rfl
end
theorem call_reprE {X : Cx} (hg : X.A.guards = some []) (hu : X.A.units + 80 < cLine) : CallR X (.builtin "repr") (rReprE X.K) := by
  intro pins s σ H xs us Q I r h
  obtain ⟨v, d, rfl, hd, hp, q⟩ := h
  rcases hd with hd | ⟨rfl, a, rfl, ha⟩
  · exact call_reprD hg hu pins s σ H [v] us Q I r ⟨v, d, rfl, hd, hp.sh, dp_noDict d v hd, hp.dp, hp.ln, q⟩
  · obtain ⟨u, rfl, ru⟩ := vals1 r
    cases ru
    obtain ⟨_, hm, vs, kv, hdict⟩ := dk_of I.hok ha
    cases kv
    obtain ⟨o, es, ep, ho, hc, hd2, _, hps, _⟩ := hdict
    have e0 : es.toList = [] := by
      generalize es.toList = l at hps
      cases hps
      rfl
    have rd : Reads s.heap (.ref a) (.dict []) (a :: [] ++ []) := .dict ho hc.1 hd2 (by rw [e0]; exact .nil) (by rw [e0]; exact .nil)
    refine repr_of_reads' rd hp.sh (fun _ hin => ?_) hg (by have := hp.dp; omega) (fun _ _ e => e) (fun h' u tk hk => ⟨.str _, H, I.kept (t' := tk) hk, ⟨_, rfl⟩, q⟩) hp.ln
    have e1 : sysModules = a := by simpa using hin
    rw [e1] at hm
    simp at hm
theorem call_reprEK {X : Cx} (K : PySem.W.Frag) (e : X.K = K) (hg : X.A.guards = some []) (hu : X.A.units + 80 < cLine) : CallR X (.builtin "repr") (rReprE K) := by
  subst e
  exact call_reprE hg hu
end XX

set_option maxRecDepth 100000
set_option maxHeartbeats 4000000
namespace XX
open PySem PySem.Spec PyProof.Rows L2
/-! ### small data can be shown -/
theorem int_len : ∀ i : Fin 1011, (PyData.int ((i.val : Int) - 10)).shown.length ≤ 13 := by decide +kernel
theorem int_show : ∀ i : Fin 1011, (PyData.int ((i.val : Int) - 10)).showable = true := by decide +kernel
theorem int_wt : ∀ i : Fin 1011, (PyData.int ((i.val : Int) - 10)).weight ≤ 11 := by decide +kernel
theorem int_fin {i : Int} (h : sm (.int i) = true) : ∃ j : Fin 1011, i = (j.val : Int) - 10 := by
  rw [sm, Bool.and_eq_true, decide_eq_true_eq, decide_eq_true_eq] at h
  exact ⟨⟨(i + 10).toNat, by omega⟩, by show i = ((i + 10).toNat : Int) - 10; omega⟩
mutual
theorem sm_short : ∀ {d : PyData}, sm d = true → d.intsShort 13 = true
  | .none, _ => rfl
  | .bool _, _ => rfl
  | .int i, h => by
    obtain ⟨j, e⟩ := int_fin h
    rw [e, PyData.intsShort]
    exact decide_eq_true (int_len j)
  | .str _, _ => rfl
  | .list ds, h => by
    rw [PyData.intsShort]
    exact sms_short (sm_lst h).2
  | .tuple ds, h => by
    rw [PyData.intsShort]
    exact sms_short (sm_tup h).2
theorem sms_short : ∀ {ds : List PyData}, sms ds = true → PyData.intsShortAll 13 ds = true
  | [], _ => rfl
  | d :: ds, h => by
    rw [sms, Bool.and_eq_true] at h
    rw [PyData.intsShortAll, sm_short h.1, sms_short h.2]
    rfl
end
mutual
theorem sm_show : ∀ {d : PyData}, sm d = true → d.showable = true
  | .none, _ => rfl
  | .bool _, _ => rfl
  | .int i, h => by
    obtain ⟨j, e⟩ := int_fin h
    rw [e]
    exact int_show j
  | .str _, _ => rfl
  | .list ds, h => by
    rw [PyData.showable]
    exact sms_show (sm_lst h).2
  | .tuple ds, h => by
    rw [PyData.showable]
    exact sms_show (sm_tup h).2
theorem sms_show : ∀ {ds : List PyData}, sms ds = true → PyData.showableAll ds = true
  | [], _ => rfl
  | d :: ds, h => by
    rw [sms, Bool.and_eq_true] at h
    rw [PyData.showableAll, sm_show h.1, sms_show h.2]
    rfl
end
structure Sml (k n : Nat) (d : PyData) : Prop where
  s : sm d = true
  dp : d.depth ≤ k
  wt : d.weight ≤ n
theorem Sml.mono {k n k' n' : Nat} {d : PyData} (h : Sml k n d) (a : k ≤ k') (b : n ≤ n') : Sml k' n' d := ⟨h.s, Nat.le_trans h.dp a, Nat.le_trans h.wt b⟩
theorem Sml.rp {k n : Nat} {d : PyData} (h : Sml k n d) (hk : k ≤ 64) (hn : n ≤ 2 ^ 20) : Rp d := by
  refine ⟨sm_show h.s, Nat.le_trans h.dp hk, ?_⟩
  have lay : PyData.layable0 d = true := by
    unfold PyData.layable0
    rw [sm_lay h.s, decide_eq_true (Nat.le_trans h.dp hk), decide_eq_true (Nat.le_trans h.wt hn)]
    rfl
  have e := shown_le13 lay (sm_short h.s)
  have e2 := sizeLine_eq
  omega
theorem wt_all {n : Nat} : ∀ {ds : List PyData}, (∀ d ∈ ds, d.weight ≤ n) → PyData.weightAll ds ≤ ds.length * (n + 1)
  | [], _ => Nat.zero_le _
  | d :: ds, h => by
    have e1 := wt_all fun e he => h e (List.mem_cons_of_mem d he)
    have e2 := h d (List.mem_cons_self ..)
    rw [PyData.weightAll, List.length_cons, Nat.add_mul, Nat.one_mul]
    omega
theorem dp_all {k : Nat} : ∀ {ds : List PyData}, (∀ d ∈ ds, d.depth ≤ k) → PyData.depthAll ds ≤ k
  | [], _ => Nat.zero_le _
  | d :: ds, h => by
    have e1 := dp_all fun e he => h e (List.mem_cons_of_mem d he)
    have e2 := h d (List.mem_cons_self ..)
    rw [PyData.depthAll]
    omega
theorem Sml.tup {k n m : Nat} {ds : List PyData} (h : ∀ d ∈ ds, Sml k n d) (hl : ds.length ≤ m) (hm : m ≤ 1000) : Sml (k + 1) (m * (n + 1)) (.tuple ds) := by
  refine ⟨?_, ?_, ?_⟩
  · rw [sm, Bool.and_eq_true]
    exact ⟨decide_eq_true (by omega), sms_of fun d hd => (h d hd).s⟩
  · have e := dp_all fun d hd => (h d hd).dp
    show PyData.depthAll ds + 1 ≤ k + 1
    omega
  · have e := wt_all fun d hd => (h d hd).wt
    exact Nat.le_trans e (Nat.mul_le_mul_right _ hl)
theorem Sml.lst {k n m : Nat} {ds : List PyData} (h : ∀ d ∈ ds, Sml k n d) (hl : ds.length ≤ m) (hm : m ≤ 1000) : Sml (k + 1) (m * (n + 1)) (.list ds) := by
  refine ⟨?_, ?_, ?_⟩
  · rw [sm, Bool.and_eq_true]
    exact ⟨decide_eq_true (by omega), sms_of fun d hd => (h d hd).s⟩
  · have e := dp_all fun d hd => (h d hd).dp
    show PyData.depthAll ds + 1 ≤ k + 1
    omega
  · have e := wt_all fun d hd => (h d hd).wt
    exact Nat.le_trans e (Nat.mul_le_mul_right _ hl)
theorem sml_int {i : Int} (h0 : -10 ≤ i) (h1 : i ≤ 1000) : Sml 0 11 (.int i) := by
  have hs : sm (.int i) = true := by
    rw [sm, decide_eq_true h0, decide_eq_true h1]
    rfl
  refine ⟨hs, Nat.le_refl _, ?_⟩
  obtain ⟨j, e⟩ := int_fin hs
  rw [e]
  exact int_wt j
theorem sml_str {z : Str} {n : Nat} (h : z.length ≤ n) (hn : n ≤ 1000) (hc : ∀ c ∈ z.cps.toList, c < 0x110000) : Sml 0 n (.str z) := by
  refine ⟨?_, Nat.le_refl _, h⟩
  rw [sm, Bool.and_eq_true]
  refine ⟨decide_eq_true (by omega), Array.all_eq_true'.mpr fun c m => decide_eq_true (hc c (Array.mem_def.mp m))⟩
end XX

set_option maxRecDepth 100000
set_option maxHeartbeats 4000000
namespace YY
open PySem PySem.Spec PyProof.Rows L2 XX
local macro_rules | `(tactic| walk_at "wp") => `(tactic| simp only [tSeq, tNext, tAsg, tPar, gName, tCB, tCons, tNil, tVar, tC, tOp, tUn, rI, rI0, rU, tLst, tTup, tFor_eq, iRng1, iRng2, iList, iTup, tRet, tRetN, tDrop, tIfS, tTest, tB, tAnd, tOr, tNot, tIf, tAndV, tOrV, tNotV, tCall, tBM, tBM0, rIxL, rIxT, rAppend, tLc_eq, gSub, rSetL, rEq, rNe, rMulS, rIxS, tRevT, gTup, gCons, gNil, wipe, tYes, LcEnd, tDisp, tPairs, tChain, tSl, tPart, tNoPart, rSlT, rSlL, rCatT, rCat, rRep, rIsD, V.ty.injEq, iZipB, tXf, wMA, wAs, rLenK, tLenSetS, rReprE, tVeI, tOst, tErr, tMkO, sFld, tFld, rIsE2, tMakeS, rListStr, tDNotIn, tDGet, rSetD, gSub, iEnumA, rIxD, iStr,
  cxOf_K, cxOf_noxK, L2.start, List.map_cons, List.map_nil, List.length_cons, List.length_nil, Nat.reduceAdd, Nat.reduceSub, List.replicate_succ, List.replicate_zero, List.replicate, List.cons_append, List.nil_append, List.getElem?_cons_zero, List.getElem?_cons_succ, List.set_cons_zero, List.set_cons_succ, List.append_nil,
  Option.some.injEq, V.int.injEq, V.ref.injEq, V.bl.injEq, V.str.injEq, List.cons.injEq, and_true, true_and, exists_eq_left', exists_eq_left, exists_and_left, exists_and_right, exists_const, bool_ite_true, bool_ite_false, dec_ite, ndec_ite, reduceCtorEq, false_or, or_false, false_and, and_false, decide_eq_true_eq, and_assoc, reduceIte, ite_true, ite_false, Int.zero_add])

def topS (i : Nat) : Stmt := PySem.Challenge.pw_partedlanes_k09_data_as_values.main.body.getD i (.Pass ⟨0, 0, 0, 0⟩)
abbrev sNumbers : Stmt := topS 16
abbrev sPool : Stmt := topS 17
abbrev sDraw : Stmt := topS 18
abbrev sPick : Stmt := topS 9999
/-- the built-ins that no name of the module hides -/
structure Bl (mg : Str → Option Value) : Prop where
  n_max : mg "max" = none
  n_range : mg "range" = none
  n_len : mg "len" = none
  n_int : mg "int" = none
section
variable {P : Program} {w : World} {K : PySem.W.Frag} {mg : Str → Option Value} {base : Heap}

/-! ### _law_numbers -/
def nums (ns : List Int) : List V := ns.map V.int
def spNumbers (K : PySem.W.Frag) : Sp := fun vs H Q _ => ∃ (cell salt : Int) (a : Addr) (sz : List Int), vs = [.int cell, .int salt, .ref a] ∧ SqL K H a (nums sz) ∧ 0 ≤ salt ∧ salt ≤ 100000 ∧ sz.length ≤ 1000 ∧ (∀ z ∈ sz, 0 < z ∧ z ≤ 1000) ∧
  ∀ (p : Addr) (ns : List Int), H p = none → ns.length = sz.length → (∀ n ∈ ns, 0 ≤ n) → (∀ (i : Nat) n z, ns[i]? = some n → sz[i]? = some z → n < z) → Q (.ref p) (upd H p (.lst (nums ns)))
theorem scNumbers : FnScope ["cell", "salt", "sizes", "whole", "left", "result", "k", "one"] ["cell", "salt", "sizes"] (defScope sNumbers) := ⟨rfl, rfl, rfl, by decide +kernel, rfl, by decide +kernel, by decide +kernel⟩
theorem c_numbers (D : Def K mg "_law_numbers" sNumbers ["cell", "salt", "sizes"]) (T : Bl mg) : FnC P w K mg base CX0 1 "_law_numbers" ["cell", "salt", "sizes"] (spNumbers K) := by
  refine D.ok scNumbers (fun vs H Q E h => ?_) (fun f cdv A outer s H vs Q E hr h => ?_)
  · obtain ⟨cell, salt, a, sz, rfl, _⟩ := h
    rfl
  · obtain ⟨cell, salt, a, sz, rfl, hS, hs0, hs1, hl, hz, k⟩ := h
    have sc := scNumbers
    refine ⟨_, (pss_cons (ps_set (i := 3) sc.nd rfl (Or.inl rfl) (pe_callB (call_max2 rfl) (by rfl) T.n_max (by decide +kernel) (pa_cons (pv 0) (pa_cons (pe_op op_sub (pe_un un_neg pe_int) (pv 0)) pa_nil))))
    (pss_cons (ps_set (i := 4) sc.nd rfl (Or.inl rfl) (pv 3))
    (pss_cons (ps_set (i := 5) sc.nd rfl (Or.inl rfl) (pe_lst pa_nil))
    (pss_cons (ps_for PassesOwn.never rfl (pi_range1 (by rfl) T.n_range (pa_cons (pe_callB call_len_seq (by rfl) T.n_len (by decide +kernel) (pa_cons (pv 2) pa_nil)) pa_nil)) (pg_name (i := 6) sc.nd rfl (Or.inl rfl))
      (pss_one (ps_if (PW.pt (pw_and (pt_cmpR op_ge (pv 3) (pe_op op_pow pe_int pe_int) (nomark _)) (pw_and1 (pt_cmpR op_gt (pv 4) pe_int (nomark _))))) (pss_cons (ps_expr (pe_bm PySem.F.plainAttrs_list PySem.F.slot_list_append PySem.F.type_list_append mt_append (pv 5) (pa_cons (pe_op op_mod (pv 4) (pe_ix ix_list (pv 2) (pv 6) (fun _ _ => rfl))) pa_nil)))
    (pss_one (ps_set (i := 4) sc.nd rfl (Or.inl rfl) (pe_op op_fdiv (pv 4) (pe_ix ix_list (pv 2) (pv 6) (fun _ _ => rfl)))))) (pss_cons (ps_set (i := 7) sc.nd rfl (Or.inl rfl) (pe_op op_mod (pe_op op_pow (pe_op op_add (pe_op op_add (pe_op op_mod (pv 3) pe_int) (pe_op op_mul pe_int (pv 1))) pe_int) pe_int) pe_int))
    (pss_cons (ps_set (i := 7) sc.nd rfl (Or.inl rfl) (pe_op op_mod (pe_op op_mul (pe_op op_add (pv 7) (pe_op op_mul pe_int (pe_op op_add (pv 6) pe_int))) (pe_op op_add (pv 6) pe_int)) pe_int))
    (pss_cons (ps_set (i := 7) sc.nd rfl (Or.inl rfl) (pe_op op_mod (pe_op op_mul (pe_op op_mod (pe_op op_pow (pv 7) pe_int) pe_int) pe_int) pe_int))
    (pss_one (ps_expr (pe_bm PySem.F.plainAttrs_list PySem.F.slot_list_append PySem.F.type_list_append mt_append (pv 5) (pa_cons (pe_op op_mod (pe_op op_fdiv (pv 7) pe_int) (pe_ix ix_list (pv 2) (pv 6) (fun _ _ => rfl))) pa_nil))))))))))
    (pss_one (ps_ret (pv 5))))))), ?_⟩
    walk_at "wp"
    generalize hw : (if -1 - cell > cell then -1 - cell else cell) = whole
    have hw0 : 0 ≤ whole := by
      rw [← hw]
      split <;> omega
    have hne : ∀ {q : Addr} {xs : List V}, SqL K H q xs → ∀ {p : Addr} {o : HO}, H p = none → SqL K (upd H p o) q xs := fun {q xs} h {p o} hp => by
      rcases h with (h | ⟨ob, h⟩) | h
      · exact .inl (.inl (by rw [upd_ne (ne_of_none h hp)]; exact h))
      · exact .inl (.inr ⟨ob, by rw [upd_ne (ne_of_none h hp)]; exact h⟩)
      · exact .inr h
    have hsl : (nums sz).length = sz.length := List.length_map ..
    refine ⟨Nat.zero_le _, fun p hp => ⟨nums sz, Or.inl (hne hS hp), by omega, by rw [hsl]; omega, ?_⟩⟩
    refine loop_it (walk_range (lo := 0)) (fun i σ H' => ∃ (left : Int) (ns : List Int) (u v : Option V), σ = [some (V.int cell), some (V.int salt), some (V.ref a), some (V.int whole), some (V.int left), some (V.ref p), u, v] ∧ H' = upd H p (.lst (nums ns)) ∧ ns.length = i ∧ 0 ≤ left ∧ (∀ n ∈ ns, 0 ≤ n) ∧ ∀ (i : Nat) n z, ns[i]? = some n → sz[i]? = some z → n < z)
      ⟨whole, [], none, none, rfl, rfl, rfl, hw0, fun n h => (nomatch h), fun i n z h => by simp at h⟩ (fun _ _ _ _ _ => True.intro) ?_ ?_
    · rintro i x σ H1 H2 hi ⟨left, ns, u, v, rfl, rfl, hn, hl0, hnn, hlt⟩ ⟨rfl, rfl⟩
      walk_at "wp"
      rw [hsl] at hi
      have hi' : i < sz.length := by omega
      obtain ⟨z, hzi⟩ : ∃ z, sz[i]? = some z := ⟨sz[i], by simp [hi']⟩
      have hzz := hz z (List.mem_of_getElem? hzi)
      have hat : atI (nums sz) (i : Int) = some (V.int z) := atI_nat (by rw [nums, List.getElem?_map, hzi]; rfl)
      have hty : tyV K "list" (V.ref p) (upd H p (.lst (nums ns))) := Or.inl ⟨rfl, _, SqL.of upd_same⟩
      have hS1 : SqL K (upd H p (.lst (nums ns))) a (nums sz) := hne hS hp
      have hsz : (nums ns).length < sizeLine := by
        rw [nums, List.length_map, sizeLine_eq]
        omega
      have ap : ∀ x : Int, 0 ≤ x → x < z → ∃ ns' : List Int, upd (upd H p (.lst (nums ns))) p (.lst (nums ns ++ [V.int x])) = upd H p (.lst (nums ns')) ∧ ns'.length = i + 1 ∧ (∀ n ∈ ns', 0 ≤ n) ∧ ∀ (i : Nat) n z, ns'[i]? = some n → sz[i]? = some z → n < z := fun x h0 h1 => by
        refine ⟨ns ++ [x], ?_, by rw [List.length_append, hn]; rfl, fun n hm => ?_, fun j n y hj hy => ?_⟩
        · rw [upd_upd]
          congr 2
          simp [nums]
        · rcases List.mem_append.mp hm with h | h
          · exact hnn n h
          · rw [List.mem_singleton.mp h]
            exact h0
        · by_cases hji : j < ns.length
          · rw [List.getElem?_append_left hji] at hj
            exact hlt j n y hj hy
          · rw [List.getElem?_append_right (by omega)] at hj
            have e : j - ns.length = 0 := by
              have q := (List.getElem?_eq_some_iff.mp hj).1
              simp at q
              omega
            rw [e] at hj
            have e2 : j = i := by omega
            subst e2
            rw [hzi] at hy
            cases hy
            simp at hj
            omega
      have hcp : CPow 10 18 := ⟨by decide, by decide, by decide⟩
      refine ⟨hcp, ?_⟩
      have hdraw : ∀ m : Int, 0 ≤ m → 0 ≤ m % z ∧ m % z < z := fun m _ => ⟨Int.emod_nonneg _ (by omega), Int.emod_lt_of_pos _ hzz.1⟩
      generalize ha1 : whole % 2147483629 + 7919 * salt + 1 = a1
      have b1 : 0 ≤ a1 ∧ a1 < 10000000000 := by
        have q1 := Int.emod_nonneg whole (show (2147483629 : Int) ≠ 0 by decide)
        have q2 := Int.emod_lt_of_pos whole (show (0 : Int) < 2147483629 by decide)
        omega
      generalize ha2 : a1 ^ Int.toNat 3 % 2147483647 = a2
      have b2 : 0 ≤ a2 ∧ a2 < 2147483647 := by
        rw [← ha2]
        exact ⟨Int.emod_nonneg _ (by decide), Int.emod_lt_of_pos _ (by decide)⟩
      generalize ha3 : (a2 + 104729 * ((i : Int) + 1)) * ((i : Int) + 3) % 2147483629 = a3
      have b3 : 0 ≤ a3 ∧ a3 < 2147483629 := by
        rw [← ha3]
        exact ⟨Int.emod_nonneg _ (by decide), Int.emod_lt_of_pos _ (by decide)⟩
      generalize ha4 : a3 ^ Int.toNat 5 % 2147483647 = a4
      have b4 : 0 ≤ a4 ∧ a4 < 2147483647 := by
        rw [← ha4]
        exact ⟨Int.emod_nonneg _ (by decide), Int.emod_lt_of_pos _ (by decide)⟩
      generalize ha5 : a4 * 48271 % 2147483629 = a5
      have b5 : 0 ≤ a5 ∧ a5 < 2147483629 := by
        rw [← ha5]
        exact ⟨Int.emod_nonneg _ (by decide), Int.emod_lt_of_pos _ (by decide)⟩
      have hpoly : ∀ R : Prop, (∀ x : Int, 0 ≤ x → x < z → (∃ ns' : List Int, upd (upd H p (.lst (nums ns))) p (.lst (nums ns ++ [V.int x])) = upd H p (.lst (nums ns')) ∧ ns'.length = i + 1 ∧ 0 ≤ left ∧ (∀ n ∈ ns', 0 ≤ n) ∧ ∀ (i : Nat) n z, ns'[i]? = some n → sz[i]? = some z → n < z) → R) → R := fun R q => by
        refine q (a5 / 16 % z) (hdraw _ (by omega)).1 (hdraw _ (by omega)).2 ?_
        obtain ⟨ns', e1, e2, e3, e4⟩ := ap (a5 / 16 % z) (hdraw _ (by omega)).1 (hdraw _ (by omega)).2
        exact ⟨ns', e1, e2, hl0, e3, e4⟩
      have c1 : CMul 7919 salt := .inl ⟨by decide, by decide⟩
      have c2 : CPow a1 3 := ⟨by decide, by decide, by omega⟩
      have c3 : CMul 104729 ((i : Int) + 1) := .inl ⟨by decide, by decide⟩
      have c4 : CMul (a2 + 104729 * ((i : Int) + 1)) ((i : Int) + 3) := .inr ⟨by omega, by omega⟩
      have c5 : CPow a3 5 := ⟨by decide, by decide, by omega⟩
      have c6 : CMul a4 48271 := .inr ⟨by decide, by decide⟩
      have c7 : CDiv a5 16 := ⟨by decide, by decide⟩
      obtain ⟨ns', e1, e2, e3, e4⟩ := ap (a5 / 16 % z) (hdraw _ (by omega)).1 (hdraw _ (by omega)).2
      have hls : 0 ≤ left / z := Int.ediv_nonneg hl0 (by omega)
      refine ite2 (fun _ => ite2 (fun hlp => ?_) (fun _ => ?_)) (fun _ => ?_)
      · obtain ⟨ms, f1, f2, f3, f4⟩ := ap (left % z) (hdraw _ hl0).1 (hdraw _ hl0).2
        refine ⟨hty, _, hS1, _, hat, z, rfl, hzz.1, _, upd_same, hsz, _, ?_, _, hat, z, rfl, ⟨hzz.1, by omega⟩, ms, f1, f2, hls, f3, f4⟩
        rw [upd_upd]
        exact hne hS hp
      · exact ⟨by decide, c1, c2, by decide, c3, c4, by decide, c5, by decide, c6, by decide, hty, c7, _, hS1, _, hat, z, rfl, hzz.1, _, upd_same, hsz, ns', e1, e2, hl0, e3, e4⟩
      · exact ⟨by decide, c1, c2, by decide, c3, c4, by decide, c5, by decide, c6, by decide, hty, c7, _, hS1, _, hat, z, rfl, hzz.1, _, upd_same, hsz, ns', e1, e2, hl0, e3, e4⟩
    · rintro σ H1 ⟨left, ns, u, v, rfl, rfl, hn, hl0, hnn, hlt⟩
      walk_at "wp"
      refine k p ns hp ?_ hnn hlt
      rw [hn, hsl]
      omega
end
end YY

set_option maxRecDepth 100000
set_option maxHeartbeats 4000000
namespace YY
open PySem PySem.Spec PyProof.Rows L2 XX
local macro_rules | `(tactic| walk_at "wp") => `(tactic| simp only [tSeq, tNext, tAsg, tPar, gName, tCB, tCons, tNil, tVar, tC, tOp, tUn, rI, rI0, rU, tLst, tTup, tFor_eq, iRng1, iRng2, iList, iTup, tRet, tRetN, tDrop, tIfS, tTest, tB, tAnd, tOr, tNot, tIf, tAndV, tOrV, tNotV, tCall, tBM, tBM0, rIxL, rIxT, rAppend, tLc_eq, gSub, rSetL, rEq, rNe, rMulS, rIxS, tRevT, gTup, gCons, gNil, wipe, tYes, LcEnd, tDisp, tPairs, tChain, tSl, tPart, tNoPart, rSlT, rSlL, rCatT, rCat, rRep, rIsD, V.ty.injEq, iZipB, tXf, wMA, wAs, rLenK, tLenSetS, rReprE, tVeI, tOst, tErr, tMkO, sFld, tFld, rIsE2, tMakeS, rListStr, tDNotIn, tDGet, rSetD, gSub, iEnumA, rIxD, iStr,
  cxOf_K, cxOf_noxK, L2.start, List.map_cons, List.map_nil, List.length_cons, List.length_nil, Nat.reduceAdd, Nat.reduceSub, List.replicate_succ, List.replicate_zero, List.replicate, List.cons_append, List.nil_append, List.getElem?_cons_zero, List.getElem?_cons_succ, List.set_cons_zero, List.set_cons_succ, List.append_nil,
  Option.some.injEq, V.int.injEq, V.ref.injEq, V.bl.injEq, V.str.injEq, List.cons.injEq, and_true, true_and, exists_eq_left', exists_eq_left, exists_and_left, exists_and_right, exists_const, bool_ite_true, bool_ite_false, dec_ite, ndec_ite, reduceCtorEq, false_or, or_false, false_and, and_false, decide_eq_true_eq, and_assoc, reduceIte, ite_true, ite_false, Int.zero_add])

/-- at p stands a pool of draws -/
def Pool (H : Hp) (p : Addr) : Prop := ∃ (l : Addr) (i : Int) (ns : List Int), H p = some (.lst [.ref l, .int i]) ∧ H l = some (.lst (nums ns)) ∧ 0 ≤ i ∧ l ≠ p
/-- only the pool at p has gone on; else new things have come -/
structure Gr (p : Addr) (H H' : Hp) : Prop where
  keep : ∀ b o, b ≠ p → H b = some o → H' b = some o
  pool : Pool H' p
  same : ∀ (l : Addr) (i : Int), H p = some (.lst [.ref l, .int i]) → ∃ j : Int, H' p = some (.lst [.ref l, .int j])
theorem Gr.trans {p : Addr} {H H1 H2 : Hp} (a : Gr p H H1) (b : Gr p H1 H2) : Gr p H H2 := ⟨fun c o h e => b.keep c o h (a.keep c o h e), b.pool, fun l i e => by
  obtain ⟨j, e1⟩ := a.same l i e
  exact b.same l j e1⟩
/-- what was not tracked may change, too -/
theorem Gr.mut {p q : Addr} {H G : Hp} {o : HO} (g : Gr p H G) (h : Pool H p) (e : H q = none) : Gr p H (upd G q o) := by
  obtain ⟨l, i, ns, h1, h2, h3, h4⟩ := h
  obtain ⟨j, g1⟩ := g.same l i h1
  obtain ⟨l', j', ns', p1, p2, p3, p4⟩ := g.pool
  rw [g1] at p1
  cases p1
  exact ⟨fun b u hb hbu => by rw [upd_ne (ne_of_none hbu e)]; exact g.keep b u hb hbu, ⟨l, j, ns, by rw [upd_ne (ne_of_none h1 e)]; exact g1, by rw [upd_ne (ne_of_none h2 e)]; exact g.keep l _ h4 h2, p3, h4⟩, fun l2 i2 e2 => by
    rw [h1] at e2
    cases e2
    exact ⟨j, by rw [upd_ne (ne_of_none h1 e)]; exact g1⟩⟩
theorem Pool.notTup {H : Hp} {p a : Addr} {xs : List V} (h : Pool H p) (e : H a = some (.tup xs)) : a ≠ p := by
  obtain ⟨l, i, ns, h1, _⟩ := h
  exact ne_of e h1 (by intro z; cases z)
theorem Pool.notFrz {H : Hp} {p a : Addr} {o : Obj} {u : HO} (h : Pool H p) (e : H a = some (.frz o u)) : a ≠ p := by
  obtain ⟨l, i, ns, h1, _⟩ := h
  exact ne_of e h1 (by intro z; cases z)
theorem Gr.tup {K : PySem.W.Frag} {p a : Addr} {H H' : Hp} {xs : List V} (g : Gr p H H') (h : Pool H p) (e : SqT K H a xs) : SqT K H' a xs := by
  rcases e with (e | ⟨o, e⟩) | e
  · exact .inl (.inl (g.keep _ _ (h.notTup e) e))
  · exact .inl (.inr ⟨o, g.keep _ _ (h.notFrz e) e⟩)
  · exact .inr e
theorem Gr.lst {K : PySem.W.Frag} {p a : Addr} {H H' : Hp} {xs : List V} (g : Gr p H H') (h : a ≠ p) (e : SqL K H a xs) : SqL K H' a xs := by
  rcases e with (e | ⟨o, e⟩) | e
  · exact .inl (.inl (g.keep _ _ h e))
  · exact .inl (.inr ⟨o, g.keep _ _ h e⟩)
  · exact .inr e
theorem Gr.free {p a : Addr} {H H' : Hp} (g : Gr p H H') (h : Pool H p) (e : H' a = none) : H a = none := by
  cases q : H a with
  | none => rfl
  | some o =>
    by_cases c : a = p
    · subst c
      obtain ⟨l, i, ns, h1, _⟩ := g.pool
      rw [h1] at e
      cases e
    · rw [g.keep a o c q] at e
      cases e
/-- a new thing beside the pool -/
theorem Gr.new {p q : Addr} {H : Hp} {o : HO} (h : Pool H p) (e : H q = none) : Gr p H (upd H q o) := by
  refine ⟨fun b u _ hb => by rw [upd_ne (ne_of_none hb e)]; exact hb, ?_, fun l i h1 => ⟨i, by rw [upd_ne (ne_of_none h1 e)]; exact h1⟩⟩
  obtain ⟨l, i, ns, h1, h2, h3⟩ := h
  exact ⟨l, i, ns, by rw [upd_ne (ne_of_none h1 e)]; exact h1, by rw [upd_ne (ne_of_none h2 e)]; exact h2, h3⟩
theorem Gr.refl {p : Addr} {H : Hp} (h : Pool H p) : Gr p H H := ⟨fun _ _ _ e => e, h, fun l i e => ⟨i, e⟩⟩
theorem Pool.ne_none {H : Hp} {p q : Addr} (h : Pool H p) (e : H q = none) : p ≠ q := by
  obtain ⟨l, i, ns, h1, _⟩ := h
  exact ne_of_none h1 e
theorem sqT_new {K : PySem.W.Frag} {H : Hp} {a q : Addr} {xs : List V} {o : HO} (h : SqT K H a xs) (e : H q = none) : SqT K (upd H q o) a xs := by
  rcases h with (h | ⟨ob, h⟩) | h
  · exact .inl (.inl (by rw [upd_ne (ne_of_none h e)]; exact h))
  · exact .inl (.inr ⟨ob, by rw [upd_ne (ne_of_none h e)]; exact h⟩)
  · exact .inr h
theorem sqL_new {K : PySem.W.Frag} {H : Hp} {a q : Addr} {xs : List V} {o : HO} (h : SqL K H a xs) (e : H q = none) : SqL K (upd H q o) a xs := by
  rcases h with (h | ⟨ob, h⟩) | h
  · exact .inl (.inl (by rw [upd_ne (ne_of_none h e)]; exact h))
  · exact .inl (.inr ⟨ob, by rw [upd_ne (ne_of_none h e)]; exact h⟩)
  · exact .inr h
theorem at_of {xs : List V} {z : Int} {j : Nat} {v : V} (e : z = (j : Int)) (h : xs[j]? = some v) : atI xs z = some v := by
  rw [e]
  exact atI_nat h
theorem same_new {H : Hp} {q : Addr} {o : HO} (e : H q = none) : Same H (upd H q o) := fun b u hb => by
  rw [upd_ne (ne_of_none hb e)]
  exact hb
theorem Same.sqT {K : PySem.W.Frag} {H H' : Hp} {a : Addr} {xs : List V} (e : Same H H') (h : SqT K H a xs) : SqT K H' a xs := by
  rcases h with (h | ⟨o, h⟩) | h
  · exact .inl (.inl (e _ _ h))
  · exact .inl (.inr ⟨o, e _ _ h⟩)
  · exact .inr h
section
variable {P : Program} {w : World} {K : PySem.W.Frag} {mg : Str → Option Value} {base : Heap}
/-! ### _law_pool -/
def spPool : Sp := fun vs H Q _ => ∃ cell salt many : Int, vs = [.int cell, .int salt, .int many] ∧ 0 ≤ salt ∧ salt ≤ 100000 ∧ 0 ≤ many ∧ many ≤ 1000 ∧ ∀ p H', Same H H' → H p = none → Pool H' p → Q (.ref p) H'
theorem scPool : FnScope ["cell", "salt", "many"] ["cell", "salt", "many"] (defScope sPool) := ⟨rfl, rfl, rfl, by decide +kernel, rfl, by decide +kernel, by decide +kernel⟩
theorem c_pool (D : Def K mg "_law_pool" sPool ["cell", "salt", "many"]) (T : Bl mg) (cN : FnC P w K mg base CX0 1 "_law_numbers" ["cell", "salt", "sizes"] (spNumbers K)) : FnC P w K mg base CX0 2 "_law_pool" ["cell", "salt", "many"] spPool := by
  refine D.ok scPool (fun vs H Q E h => ?_) (fun f cdv A outer s H vs Q E hr h => ?_)
  · obtain ⟨cell, salt, many, rfl, _⟩ := h
    rfl
  · obtain ⟨cell, salt, many, rfl, h0, h1, h2, h3, k⟩ := h
    refine ⟨_, (pss_one (ps_ret (pe_lst (pa_cons (pe_c cN hr rfl (pa_cons (pv 0) (pa_cons (pv 1) (pa_cons (pe_op op_rep (pe_lst (pa_cons pe_int pa_nil)) (pv 2)) pa_nil)))) (pa_cons pe_int pa_nil))))), ?_⟩
    walk_at "wp"
    refine ⟨by decide, fun p hp => ⟨_, upd_same, by omega, by omega, by simp only [List.length_cons, List.length_nil]; rw [sizeLine_eq]; omega, fun q hq => ?_⟩⟩
    have e : (List.replicate many.toNat [V.int 420]).flatten = nums (List.replicate many.toNat 420) := by
      rw [nums, List.map_replicate]
      induction many.toNat with
      | zero => rfl
      | succ n ih =>
        rw [List.replicate_succ, List.flatten_cons, ih]
        rfl
    rw [e]
    refine ⟨cell, salt, q, List.replicate many.toNat 420, rfl, SqL.of upd_same, h0, h1, by rw [List.length_replicate]; omega, fun z hz => ?_, fun r ns hr2 _ _ _ => ?_⟩
    · rw [List.eq_of_mem_replicate hz]
      decide
    · refine ⟨by decide, fun t ht => ?_⟩
      have s1 : Same H (upd (upd (upd H p (.lst [.int 420])) q (.lst (nums (List.replicate many.toNat 420)))) r (.lst (nums ns))) := (same_new hp).trans ((same_new hq).trans (same_new hr2))
      have ntr : t ≠ r := fun z => by
        rw [z, upd_same] at ht
        cases ht
      exact k t _ (s1.trans (same_new ht)) (s1.free ht) ⟨r, 0, ns, upd_same, by rw [upd_ne ntr.symm, upd_same], Int.le_refl 0, ntr.symm⟩
/-! ### _law_draw -/
def spDraw : Sp := fun vs H Q _ => ∃ (p : Addr) (many : Int), vs = [.ref p, .int many] ∧ Pool H p ∧ 0 < many ∧ ∀ (v : Int) H', 0 ≤ v → v < many → Gr p H H' → Q (.int v) H'
theorem scDraw : FnScope ["pool", "many", "at"] ["pool", "many"] (defScope sDraw) := ⟨rfl, rfl, rfl, by decide +kernel, rfl, by decide +kernel, by decide +kernel⟩
theorem c_draw (D : Def K mg "_law_draw" sDraw ["pool", "many"]) (T : Bl mg) : FnC P w K mg base CX0 1 "_law_draw" ["pool", "many"] spDraw := by
  refine D.ok scDraw (fun vs H Q E h => ?_) (fun f cdv A outer s H vs Q E hr h => ?_)
  · obtain ⟨p, many, rfl, _⟩ := h
    rfl
  · obtain ⟨p, many, rfl, ⟨l, i, ns, h1, h2, h3, hlp⟩, hm, k⟩ := h
    have sc := scDraw
    refine ⟨_, (pss_cons (ps_set (i := 2) sc.nd rfl (Or.inl rfl) (pe_ix ix_list (pv 0) pe_int (fun _ _ => rfl)))
    (pss_cons (ps_asg (pe_op op_add (pv 2) pe_int) (pg_sub (pv 0) pe_int set_list))
    (pss_one (ps_ret (pe_ifExp (pt_cmpR op_lt (pv 2) (pe_callB call_len_seq (by rfl) T.n_len (by decide +kernel) (pa_cons (pe_ix ix_list (pv 0) pe_int (fun _ _ => rfl)) pa_nil)) (nomark _)) (pe_op op_mod (pe_callTy call_int1 (by rfl) T.n_int (by decide +kernel) (pa_cons (pe_ix ix_list (pe_ix ix_list (pv 0) pe_int (fun _ _ => rfl)) (pv 2) (fun _ _ => rfl)) pa_nil)) (pv 1)) pe_int))))), ?_⟩
    walk_at "wp"
    have g : Gr p H (upd H p (.lst [.ref l, .int (i + 1)])) := ⟨fun b o hb e => by rw [upd_ne hb]; exact e, ⟨l, i + 1, ns, upd_same, by rw [upd_ne hlp]; exact h2, by omega, hlp⟩, fun l2 i2 e => by
      rw [h1] at e
      cases e
      exact ⟨_, upd_same⟩⟩
    refine ⟨_, SqL.of h1, V.int i, rfl, i, rfl, _, h1, 1, rfl, ?_⟩
    show ∃ x, SqL K (upd H p (.lst [.ref l, .int (i + 1)])) p x ∧ _
    refine ⟨_, SqL.of upd_same, _, rfl, l, rfl, nums ns, .inl (SqL.of (by rw [upd_ne hlp]; exact h2)), ?_⟩
    refine ⟨i, rfl, ite2 (fun hlt => ?_) (fun _ => k 0 _ (Int.le_refl 0) hm g)⟩
    have hi' : i.toNat < ns.length := by
      rw [nums, List.length_map] at hlt
      omega
    have hat : atI (nums ns) i = some (V.int ns[i.toNat]) := at_of (j := i.toNat) (by omega) (by rw [nums, List.getElem?_map]; simp [hi'])
    exact ⟨_, SqL.of upd_same, _, rfl, l, rfl, nums ns, i, rfl, SqL.of (by rw [upd_ne hlp]; exact h2), _, hat, .inl ⟨_, rfl, hm, k _ _ (Int.emod_nonneg _ (by omega)) (Int.emod_lt_of_pos _ hm) g⟩⟩
/-! ### _law_pick -/
end
end YY

set_option maxRecDepth 100000
set_option maxHeartbeats 4000000
namespace YY
open PySem PySem.Spec PyProof.Rows L2 XX
local macro_rules | `(tactic| walk_at "wp") => `(tactic| simp only [tSeq, tNext, tAsg, tPar, gName, tCB, tCons, tNil, tVar, tC, tOp, tUn, rI, rI0, rU, tLst, tTup, tFor_eq, iRng1, iRng2, iList, iTup, tRet, tRetN, tDrop, tIfS, tTest, tB, tAnd, tOr, tNot, tIf, tAndV, tOrV, tNotV, tCall, tBM, tBM0, rIxL, rIxT, rAppend, tLc_eq, gSub, rSetL, rEq, rNe, rMulS, rIxS, tRevT, gTup, gCons, gNil, wipe, tYes, LcEnd, tDisp, tPairs, tChain, tSl, tPart, tNoPart, rSlT, rSlL, rCatT, rCat, rRep, rIsD, V.ty.injEq, iZipB, tDNewK, tXf, wMA, wAs, rLenK, tLenSetS, rReprE, tVeI, tOst, tErr, tMkO, sFld, tFld, rIsE2, tMakeS, rListStr, tDNotIn, tDGet, rSetD, gSub, iEnumA, rIxD, iStr,
  cxOf_K, cxOf_noxK, L2.start, List.map_cons, List.map_nil, List.length_cons, List.length_nil, Nat.reduceAdd, Nat.reduceSub, List.replicate_succ, List.replicate_zero, List.replicate, List.cons_append, List.nil_append, List.getElem?_cons_zero, List.getElem?_cons_succ, List.set_cons_zero, List.set_cons_succ, List.append_nil,
  Option.some.injEq, V.int.injEq, V.ref.injEq, V.bl.injEq, V.str.injEq, List.cons.injEq, and_true, true_and, exists_eq_left', exists_eq_left, exists_and_left, exists_and_right, exists_const, bool_ite_true, bool_ite_false, dec_ite, ndec_ite, reduceCtorEq, false_or, or_false, false_and, and_false, decide_eq_true_eq, and_assoc, reduceIte, ite_true, ite_false, Int.zero_add])

theorem Same.sqL {K : PySem.W.Frag} {H H' : Hp} {a : Addr} {xs : List V} (e : Same H H') (h : SqL K H a xs) : SqL K H' a xs := by
  rcases h with (h | ⟨o, h⟩) | h
  · exact .inl (.inl (e _ _ h))
  · exact .inl (.inr ⟨o, e _ _ h⟩)
  · exact .inr h
mutual
theorem dp_same {K : PySem.W.Frag} {H H' : Hp} (e : Same H H') : ∀ (d : PyData) (v : V), Dp K H v d → Dp K H' v d
  | .none, _, h => by
    cases h
    exact .non
  | .bool b, _, h => by
    cases h
    exact .bl b
  | .int i, _, h => by
    cases h
    exact .int i
  | .str x, _, h => by
    cases h
    exact .str x
  | .list ds, _, h => by
    cases h with
    | lst hs ha => exact .lst (Same.sqL e hs) (dps_same e ds _ ha)
  | .tuple ds, _, h => by
    cases h with
    | tup hs ha => exact .tup (Same.sqT e hs) (dps_same e ds _ ha)
  | .dict _, _, h => nomatch h
theorem dps_same {K : PySem.W.Frag} {H H' : Hp} (e : Same H H') : ∀ (ds : List PyData) (vs : List V), DpAll K H vs ds → DpAll K H' vs ds
  | [], _, h => by
    cases h
    exact .nil
  | d :: ds, _, h => by
    cases h with
    | cons h1 h2 => exact .cons (dp_same e d _ h1) (dps_same e ds _ h2)
end
theorem dpAll_len {K : PySem.W.Frag} {H : Hp} : ∀ {vs : List V} {ds : List PyData}, DpAll K H vs ds → vs.length = ds.length
  | [], _, h => by
    cases h
    rfl
  | v :: vs, _, h => by
    cases h with
    | cons h1 h2 => rw [List.length_cons, List.length_cons, dpAll_len h2]
theorem dpAll_get {K : PySem.W.Frag} {H : Hp} : ∀ {vs : List V} {ds : List PyData} (h : DpAll K H vs ds) {i : Nat} {v : V}, vs[i]? = some v → ∃ d, ds[i]? = some d ∧ Dp K H v d
  | [], _, h, i, v, e => by simp at e
  | u :: vs, _, h, 0, v, e => by
    cases h with
    | cons h1 h2 =>
      cases e
      exact ⟨_, rfl, h1⟩
  | u :: vs, _, h, i + 1, v, e => by
    cases h with
    | cons h1 h2 => exact dpAll_get h2 e
theorem dpAll_of {K : PySem.W.Frag} {H : Hp} : ∀ {vs : List V} {ds : List PyData}, vs.length = ds.length → (∀ (i : Nat) v d, vs[i]? = some v → ds[i]? = some d → Dp K H v d) → DpAll K H vs ds
  | [], [], _, _ => .nil
  | [], d :: ds, e, _ => nomatch e
  | v :: vs, [], e, _ => nomatch e
  | v :: vs, d :: ds, e, h => .cons (h 0 v d rfl rfl) (dpAll_of (Nat.succ.inj e) fun i v d h1 h2 => h (i + 1) v d h1 h2)
theorem filterMap_get {α : Type} (ds : List α) (f : α → V) : (List.range ds.length).filterMap (fun i => (ds[i]?).map f) = ds.map f := by
  induction ds with
  | nil => rfl
  | cons d ds ih =>
    rw [List.length_cons, List.range_succ_eq_map, List.filterMap_cons, List.filterMap_map, List.map_cons, ← ih]
    rfl
theorem wordB_str {d : PyData} (h : wordB d = true) : ∃ z, d = .str z := by
  cases d with
  | str z => exact ⟨z, rfl⟩
  | _ => cases h
abbrev sIsWhole : Stmt := topS 1
abbrev sIsBetween : Stmt := topS 2
structure Bl2 (mg : Str → Option Value) : Prop extends Bl mg where
  n_isinstance : mg "isinstance" = none
  n_bool : mg "bool" = none
  n_str : mg "str" = none
  n_tuple : mg "tuple" = none
  n_list : mg "list" = none
  n_all : mg "all" = none
  n_zip : mg "zip" = none
  n_enumerate : mg "enumerate" = none
section
variable {P : Program} {w : World} {K : PySem.W.Frag} {mg : Str → Option Value} {base : Heap}
/-! ### is_whole, is_between -/
def spIsWhole (K : PySem.W.Frag) : Sp := fun vs H Q _ => ∃ (x : V) (d : PyData), vs = [x] ∧ Dp K H x d ∧ Q (.bl (isWhole d)) H
theorem scIsWhole : FnScope ["value"] ["value"] (defScope sIsWhole) := ⟨rfl, rfl, rfl, by decide +kernel, rfl, by decide +kernel, by decide +kernel⟩
theorem c_isWhole (D : Def K mg "is_whole" sIsWhole ["value"]) (T : Bl2 mg) : FnC P w K mg base CX0 1 "is_whole" ["value"] (spIsWhole K) := by
  refine D.ok scIsWhole (fun vs H Q E h => ?_) (fun f cdv A outer s H vs Q E hr h => ?_)
  · obtain ⟨x, d, rfl, _⟩ := h
    rfl
  · obtain ⟨x, d, rfl, hx, k⟩ := h
    have sc := scIsWhole
    refine ⟨_, (pss_one (ps_ret (pe_and (pe_callB (call_isD ty_int) (by rfl) T.n_isinstance (by decide +kernel) (pa_cons (pv 0) (pa_cons (pe_ty "int" (by rfl) T.n_int) pa_nil))) (pe_one (pe_not (pe_callB (call_isD ty_bool) (by rfl) T.n_isinstance (by decide +kernel) (pa_cons (pv 0) (pa_cons (pe_ty "bool" (by rfl) T.n_bool) pa_nil)))))))), ?_⟩
    walk_at "wp"
    refine ⟨d, hx, ite2 (fun c => ⟨d, hx, ?_⟩) fun c => ?_⟩
    · rw [isTy_int] at c
      rw [isTy_bool]
      revert c k
      cases d <;> intro k c <;> first | exact k | cases c
    · rw [isTy_int] at c
      revert c k
      cases d <;> intro k c <;> first | exact k | exact absurd rfl c
def spIsBetween (K : PySem.W.Frag) : Sp := fun vs H Q _ => ∃ (x : V) (d : PyData) (lo hi : Int), vs = [x, .int lo, .int hi] ∧ Dp K H x d ∧ Q (.bl (btw d lo hi)) H
theorem scIsBetween : FnScope ["value", "least", "most"] ["value", "least", "most"] (defScope sIsBetween) := ⟨rfl, rfl, rfl, by decide +kernel, rfl, by decide +kernel, by decide +kernel⟩
theorem c_isBetween (D : Def K mg "is_between" sIsBetween ["value", "least", "most"]) (T : Bl2 mg) : FnC P w K mg base CX0 2 "is_between" ["value", "least", "most"] (spIsBetween K) := by
  refine D.ok scIsBetween (fun vs H Q E h => ?_) (fun f cdv A outer s H vs Q E hr h => ?_)
  · obtain ⟨x, d, lo, hi, rfl, _⟩ := h
    rfl
  · obtain ⟨x, d, lo, hi, rfl, hx, k⟩ := h
    have sc := scIsBetween
    refine ⟨_, (pss_one (ps_ret (pe_and (pe_callB (call_isD ty_int) (by rfl) T.n_isinstance (by decide +kernel) (pa_cons (pv 0) (pa_cons (pe_ty "int" (by rfl) T.n_int) pa_nil))) (pe_and (pe_not (pe_callB (call_isD ty_bool) (by rfl) T.n_isinstance (by decide +kernel) (pa_cons (pv 0) (pa_cons (pe_ty "bool" (by rfl) T.n_bool) pa_nil)))) (pe_one (pe_chain op_le op_le (pv 1) (pv 0) (pv 2))))))), ?_⟩
    walk_at "wp"
    refine ⟨d, hx, ?_⟩
    cases hx with
    | int i =>
      have k' : Q (.bl (decide (lo ≤ i) && decide (i ≤ hi))) H := k
      rw [if_pos (by rfl)]
      refine ⟨.int i, .int i, ?_⟩
      rw [if_pos (by rfl)]
      walk_at "wp"
      refine ite2 (fun c => ?_) fun c => ?_
      · rw [decide_eq_true c] at k'
        exact k'
      · rw [decide_eq_false c] at k'
        exact k'
    | bl b =>
      rw [if_pos (by rfl)]
      refine ⟨.bool b, .bl b, ?_⟩
      rw [if_neg (by rw [isTy_bool]; exact Bool.false_ne_true)]
      exact k
    | _ =>
      rw [if_neg (by rw [isTy_int]; exact Bool.false_ne_true)]
      exact k

end
end YY

set_option maxRecDepth 100000
set_option maxHeartbeats 4000000
namespace YY
open PySem PySem.Spec PyProof.Rows L2 XX
local macro_rules | `(tactic| walk_at "wp") => `(tactic| simp only [tSeq, tNext, tAsg, tPar, gName, tCB, tCons, tNil, tVar, tC, tOp, tUn, rI, rI0, rU, tLst, tTup, tFor_eq, iRng1, iRng2, iList, iTup, tRet, tRetN, tDrop, tIfS, tTest, tB, tAnd, tOr, tNot, tIf, tAndV, tOrV, tNotV, tCall, tBM, tBM0, rIxL, rIxT, rAppend, tLc_eq, gSub, rSetL, rEq, rNe, rMulS, rIxS, tRevT, gTup, gCons, gNil, wipe, tYes, LcEnd, tDisp, tPairs, tChain, tSl, tPart, tNoPart, rSlT, rSlL, rCatT, rCat, rRep, rIsD, V.ty.injEq, iZipB, tXf, wMA, wAs, rLenK, tLenSetS, rReprE, tVeI, tOst, tErr, tMkO, sFld, tFld, rIsE2, tMakeS, rListStr, tDNotIn, tDGet, rSetD, gSub, iEnumA, rIxD, iStr,
  cxOf_K, cxOf_noxK, L2.start, List.map_cons, List.map_nil, List.length_cons, List.length_nil, Nat.reduceAdd, Nat.reduceSub, List.replicate_succ, List.replicate_zero, List.replicate, List.cons_append, List.nil_append, List.getElem?_cons_zero, List.getElem?_cons_succ, List.set_cons_zero, List.set_cons_succ, List.append_nil,
  Option.some.injEq, V.int.injEq, V.ref.injEq, V.bl.injEq, V.str.injEq, List.cons.injEq, and_true, true_and, exists_eq_left', exists_eq_left, exists_and_left, exists_and_right, exists_const, bool_ite_true, bool_ite_false, dec_ite, ndec_ite, reduceCtorEq, false_or, or_false, false_and, and_false, decide_eq_true_eq, and_assoc, reduceIte, ite_true, ite_false, Int.zero_add])

abbrev sErrInit : Stmt := inClass (topS 9) 0
section
variable {kws : List (Str × V)} {P : Program} {w : World} {K : PySem.W.Frag} {mg : Str → Option Value} {base : Heap}
theorem scErrInit : FnScope ["self", "value"] ["self", "value"] (defScope sErrInit) := ⟨rfl, rfl, rfl, by decide +kernel, rfl, by decide +kernel, by decide +kernel⟩
theorem c_errInit {fI : Addr} {fd : FuncData} {tk : Tok} (F : L2.Fun K "__init__" "LanesError.__init__" sErrInit fI fd) (nV : mg "ValueError" = none) (gM : mg "_MESSAGE" = some (.str "the attribute value tells what this is about" tk))
    (vV : PySem.W.findCls K (.type "ValueError") (.type "type") "__init__" = some (.val (.builtin "ValueError.__init__"))) : FnOk P w K mg base CX0 1 fI fd ["self", "value"] (spErr K) := by
  refine F.ok scErrInit (fun vs H Q E h => ?_) (fun cdv A outer s H vs Q E hr h => ?_)
  · obtain ⟨a, C, v, rfl, _⟩ := h
    rfl
  · obtain ⟨a, C, v, rfl, oex, no, ha, k⟩ := h
    have sc := scErrInit
    refine ⟨_, (pss_cons (ps_expr (pe_veinit (by rfl) nV vV (pa_cons (pv 0) (pa_cons (pe_glob (v := .str "the attribute value tells what this is about") rfl gM ⟨_, rfl⟩) pa_nil)) (by rfl)))
      (pss_one (ps_ost (pv 0) (pv 1) (by rfl)))), ?_⟩
    walk_at "wp"
    exact ⟨by decide, C, oex, ha, C, oex, no, .inl ⟨ha, fun dx h1 h2 => k dx h1 h2⟩⟩
theorem err_of2 {K : PySem.W.Frag} {C : Addr} {v : V} {H : Hp} {Q : XK} (oex : OexC K C) (no : PySem.W.findIn K (.ref C) "value" = some none) (h : ∀ d, H d = none → Q (.ref C) (some d) (upd H d (.xd [("value", v)]))) :
    1 ≤ 1000 ∧ ∀ a, H a = none → spErr K [.ref a, v] (upd H a (exo a C none))
      (fun v' H2 => v' = .non ∧ ∃ (d : Addr), H2 a = some (exo a C (some d)) ∧ ∃ (fs : List (Str × V)), H2 d = some (exd d fs) ∧ H d = none ∧ Q (.ref C) (some d) (upd (del H2 a) d (.xd fs))) (fun _ _ _ => False) := by
  obtain ⟨h1, h2⟩ := err_of oex no h
  refine ⟨h1, fun a ha => ?_⟩
  obtain ⟨a', C', v', e, o, n, q, r⟩ := h2 a ha
  refine ⟨a', C', v', e, o, n, q, fun dx hd hne => ?_⟩
  obtain ⟨x1, d, fs, x2, x3, x4, x5⟩ := r dx hd hne
  exact ⟨x1, d, x2, fs, x3, x4, x5⟩
/-! ### Program.__init__ -/
end
end YY

set_option maxRecDepth 100000
set_option maxHeartbeats 4000000
namespace XX
open PySem PySem.Spec PyProof.Rows L2
/-! ### != of two lists of the same texts -/
def rNeS (K : PySem.W.Frag) : R2 := fun x y H Q => ∃ (a b : Addr) (zs : List Str), x = .ref a ∧ y = .ref b ∧ SqL K H a (zs.map V.str) ∧ SqL K H b (zs.map V.str) ∧ Q (.bl false) H
theorem op_neS {X : Cx} (hu : X.A.units + 64 < cLine) : OpR X (compareOp .NotEq) (rNeS X.K) := by
  intro pins s σ H x y v u Q I rx ry h
  obtain ⟨a, b, zs, rfl, rfl, ha, hb, q⟩ := h
  obtain rfl : v = Value.ref a := rx
  obtain rfl : u = Value.ref b := ry
  obtain ⟨us, r1, p1, _⟩ := I.list ha
  obtain ⟨ws, r2, p2, _⟩ := I.list hb
  have sz : us.toArray.size = ws.toArray.size := by rw [List.size_toArray, List.size_toArray, ← r1.length, ← r2.length]
  have he : ∀ j (j1 : j < us.toArray.size) (j2 : j < ws.toArray.size), SeqAt.EqAt X.A.in1 s us.toArray[j] ws.toArray[j] ((fun _ => true) j) := fun j j1 j2 => by
    have j0 : j < (zs.map V.str).length := by rw [r1.length]; simpa using j1
    obtain ⟨v1, e1, q1⟩ := r1.get (i := j) (List.getElem?_eq_getElem j0)
    obtain ⟨v2, e2, q2⟩ := r2.get (i := j) (List.getElem?_eq_getElem j0)
    have f1 : us.toArray[j] = v1 := by
      have e3 : us[j]? = some us.toArray[j] := by simp
      rw [e1] at e3
      exact (Option.some.inj e3).symm
    have f2 : ws.toArray[j] = v2 := by
      have e3 : ws[j]? = some ws.toArray[j] := by simp
      rw [e2] at e3
      exact (Option.some.inj e3).symm
    rw [f1, f2]
    have ez : (zs.map V.str)[j] = .str (zs[j]'(by simpa using j0)) := List.getElem_map ..
    rw [ez] at q1 q2
    have e4 := eqAt_V (A := X.A.in1) (s := s) q1 q2 rfl rfl
    have e5 : eqV (.str (zs[j]'(by simpa using j0))) (.str (zs[j]'(by simpa using j0))) = true := beq_self_eq_true (α := Str) _
    rw [e5] at e4
    exact e4
  refine SeqAt.RcNeAt.lists p1.isList p2.isList sz (by omega) he X.prog X.w _ _ ?_
  have e6 : (!(List.range us.toArray.size).all fun _ => true) = false := by rw [List.all_eq_true.mpr fun _ _ => rfl]; rfl
  rw [e6]
  exact ⟨.bl false, H, I, rfl, q⟩
theorem shaped_ints (ns : List Int) : SeqAt.shaped (.list (ns.map PyData.int)) = true := by
  have h1 : ∀ l : List Int, PyData.canLayAll0 (l.map PyData.int) = true := fun l => by
    induction l with
    | nil => rfl
    | cons i l ih =>
      rw [List.map_cons, PyData.canLayAll0, ih]
      rfl
  have h2 : ∀ l : List Int, PyData.depthAll (l.map PyData.int) = 0 := fun l => by
    induction l with
    | nil => rfl
    | cons i l ih =>
      rw [List.map_cons, PyData.depthAll, ih]
      rfl
  unfold SeqAt.shaped
  rw [PyData.canLay0, h1, decide_eq_true (show (PyData.list (ns.map PyData.int)).depth ≤ 64 from by show PyData.depthAll (ns.map PyData.int) + 1 ≤ 64; rw [h2]; decide)]
  rfl
end XX

set_option maxRecDepth 100000
set_option maxHeartbeats 4000000
namespace XX
open PySem PySem.Spec PyProof.Rows L2
/-! ### methods by their promise -/
structure MtC (P : Program) (w : World) (K : PySem.W.Frag) (mg : Str → Option Value) (base : Heap) (CX : CXT) (k : Nat) (C : Addr) (m : Str) (ps : List Str) (sp : Sp) : Prop where
  ex : ∃ (f : Addr) (fd : FuncData), FnOk P w K mg base CX k f fd ps sp ∧ Meth K C m f ∧ Binds K fd ps []
theorem MtC.mono {P : Program} {w : World} {K : PySem.W.Frag} {mg : Str → Option Value} {base : Heap} {CX : CXT} {j k : Nat} {C : Addr} {m : Str} {ps : List Str} {sp : Sp} (c : MtC P w K mg base CX j C m ps sp) (h : j ≤ k) : MtC P w K mg base CX k C m ps sp := by
  obtain ⟨f, fd, F, r⟩ := c.ex
  exact ⟨f, fd, F.mono h, r⟩
structure DefM (K : PySem.W.Frag) (C : Addr) (m q : Str) (st : Stmt) (ps : List Str) : Prop where
  ex : ∃ (f : Addr) (fd : FuncData), L2.Fun K m q st f fd ∧ Meth K C m f ∧ Binds K fd ps []
section
variable {P : Program} {w : World} {K : PySem.W.Frag} {mg : Str → Option Value} {base : Heap}
theorem DefM.ok {C : Addr} {m q : Str} {st : Stmt} {N ps : List Str} {k : Nat} {sp : Sp} (D : DefM K C m q st ps) (S : FnScope N ps (defScope st)) (len : ∀ vs H Q E, sp vs H Q E → vs.length = ps.length)
    (hbody : ∀ (f : Addr) (cdv : Value) (A : Around) (outer : List Env) (s : Shared) (H : Hp) (vs : List V) (Q : VK) (E : XK), Room k (A.deeper (envOfC q (defScope st) s.heap.objs.size f cdv)) → sp vs H Q E →
      ∃ t, PSs (cxOf CX0 P w K mg base N q (defScope st) f cdv A outer s H E).nox (defBody st) t ∧ t { nx := fun _ H' => Q .non H', rt := Q } (start N vs) H) : MtC P w K mg base CX0 (k + 1) C m ps sp := by
  obtain ⟨f, fd, F, hm, hb⟩ := D.ex
  exact ⟨f, fd, F.ok S len (hbody f), hm, hb⟩
theorem DefM.okX {C : Addr} {m q : Str} {st : Stmt} {N ps : List Str} {k : Nat} {sp : Sp} (D : DefM K C m q st ps) (S : FnScope N ps (defScope st)) (len : ∀ vs H Q E, sp vs H Q E → vs.length = ps.length)
    (hbody : ∀ (f : Addr) (cdv : Value) (A : Around) (outer : List Env) (s : Shared) (H : Hp) (vs : List V) (Q : VK) (E : XK), Room k (A.deeper (envOfC q (defScope st) s.heap.objs.size f cdv)) → sp vs H Q E →
      ∃ t, PSs (cxOf (L2.CX P w) P w K mg base N q (defScope st) f cdv A outer s H E) (defBody st) t ∧ t { nx := fun _ H' => Q .non H', rt := Q } (start N vs) H) : MtC P w K mg base (L2.CX P w) (k + 1) C m ps sp := by
  obtain ⟨f, fd, F, hm, hb⟩ := D.ex
  exact ⟨f, fd, F.okX S len (hbody f), hm, hb⟩
end
def tMethX (C : Addr) (m : Str) (sp : Sp) (E : L2.St → XK) (ta : TE) (t : TA) : TE := fun σ H Q => ta σ H fun x H1 => ∃ a dx fs, x = .ref a ∧ H1 a = some (.ins C dx fs) ∧ fs.lookup m = none ∧
  t σ H1 fun vs H2 => sp (x :: vs) H2 Q (E σ)
section
variable {X : Cx} {CX : CXT} {k : Nat} {C : Addr} {m : Str} {ps : List Str} {sp : Sp} {E : L2.St → XK} {pos apos : Pos} {e o : Expr} {es : List Expr} {ta : TE} {t : TA} {pl : Sem Bool}
theorem pe_m (he : PE X o ta) (c : Cls X.K C) (M : MtC X.prog X.w X.K X.mg X.base CX0 k C m ps sp) (hr : Room k X.A) (ha : PA X (e :: es) t)
    (hst : starEach (e :: es) X.env = (false, eval e X.env) :: starEach es X.env := by rfl) (hpl : (backTo pos (starEach es X.env)).any (·.1) = false := by rfl)
    (ht : eval (.Call (.Attribute o m apos) (e :: es) [] pos) X.env = (do
      let ov ← eval o X.env
      standAt apos.atName
      let (f, first) ← holding [ov] (getMethod ov m pl)
      callWith pos f first (backTo pos (starEach (e :: es) X.env)) (backToKw pos (keywordEach [] X.env))) := by rfl) :
    PE X (.Call (.Attribute o m apos) (e :: es) [] pos) (tMeth C m sp [] E0 ta t) := by
  obtain ⟨f, fd, F, hm, hb⟩ := M.ex
  exact pe_meth he c hm F hr hb .nil pass0 ha hst hpl ht
theorem pe_m0 (he : PE X o ta) (c : Cls X.K C) (M : MtC X.prog X.w X.K X.mg X.base CX0 k C m ps sp) (hr : Room k X.A)
    (ht : eval (.Call (.Attribute o m apos) [] [] pos) X.env = (do
      let ov ← eval o X.env
      standAt apos.atName
      let (f, first) ← holding [ov] (getMethod ov m pl)
      callWith pos f first (backTo pos (starEach [] X.env)) (backToKw pos (keywordEach [] X.env))) := by rfl) :
    PE X (.Call (.Attribute o m apos) [] [] pos) (tMeth C m sp [] E0 ta tNil) := by
  obtain ⟨f, fd, F, hm, hb⟩ := M.ex
  exact pe_meth0 he c hm F hr hb .nil pass0 ht
/-- a method that may raise, at the slots -/
theorem pe_mX (he : PE X o ta) (c : Cls X.K C) (M : MtC X.prog X.w X.K X.mg X.base CX k C m ps sp) (hr : Room k X.A) (hx : ∀ σ, PassesAt CX X σ (E σ)) (ha : PA X (e :: es) t)
    (hst : starEach (e :: es) X.env = (false, eval e X.env) :: starEach es X.env := by rfl) (hpl : (backTo pos (starEach es X.env)).any (·.1) = false := by rfl)
    (ht : eval (.Call (.Attribute o m apos) (e :: es) [] pos) X.env = (do
      let ov ← eval o X.env
      standAt apos.atName
      let (f, first) ← holding [ov] (getMethod ov m pl)
      callWith pos f first (backTo pos (starEach (e :: es) X.env)) (backToKw pos (keywordEach [] X.env))) := by rfl) :
    PE X (.Call (.Attribute o m apos) (e :: es) [] pos) (tMethX C m sp E ta t) := by
  obtain ⟨f, fd, F, hm, hb⟩ := M.ex
  refine ⟨fun pins s σ H Q I h => ?_⟩
  refine PySem.W.methodCall_KW (pl := pl) (thn (he.run pins s σ H _ I h) fun u s1 ⟨x, H1, I1, rx, a, dx, fs, ex, ea, l, q⟩ => ?_) ht
  subst ex
  obtain rfl : u = Value.ref a := rx
  refine getmeth_ok I1 ea c hm l ?_
  refine PySem.W.callWith_K (first := [.ref a]) (h₀ := X.base) I.ok.mod.kin hm.kp (thn (ha.run pos pins s1 σ H1 _ I1 q) fun us s2 ⟨vs, H2, I2, r, q2⟩ => ⟨I2.kIn, ?_⟩) hst hpl
  exact run_fnS (us := .ref a :: us) (vs := .ref a :: vs) F hr hb (hx σ) I2 (.cons rfl r) q2
theorem passLAt {X : Cx} (σ : L2.St) : PassesAt (L2.CX X.prog X.w) X σ E0 := fun pins H s e s' I c => passL pins σ H s e s' I c
end
section
variable {X : Cx}
theorem op_inK (K : PySem.W.Frag) (h : X.K = K) : OpR X (compareOp .In) (rIn K false) := by
  subst h
  exact op_in_seq
theorem op_notInK (K : PySem.W.Frag) (h : X.K = K) : OpR X (compareOp .NotIn) (rIn K true) := by
  subst h
  exact op_notIn_seq
theorem pe_fldK {e : Expr} {f : Str} {pos : Pos} {ta : TE} (K : PySem.W.Frag) (h : X.K = K) (he : PE X e ta) (hb : attributeBase e f X.env (eval e X.env) = eval e X.env) : PE X (.Attribute e f pos) (tFld K ta f) := by
  subst h
  exact pe_fld he hb
theorem ix_tupK (K : PySem.W.Frag) (h : X.K = K) : IxR X (rIxT K) := by
  subst h
  exact ix_tup
theorem ix_listK (K : PySem.W.Frag) (h : X.K = K) : IxR X (rIxL K) := by
  subst h
  exact ix_list
end
end XX

set_option maxRecDepth 100000
set_option maxHeartbeats 4000000
namespace XX
open PySem PySem.Spec PyProof.Rows L2
/-! ### own operators of plain instances: ==, !=, len, [] -/
section
variable {X : Cx} {CX : CXT} {k : Nat} {f C : Addr} {fd : FuncData} {ps : List Str} {sp : Sp}
/-- the callee runs within a builtin -/
theorem run_at {pins : List (Addr × Obj)} {σ : L2.St} {H : Hp} {s : Shared} {Q : VK} {us : List Value} {vs : List V} {E : XK} {A : Around} (F : FnOk X.prog X.w X.K X.mg X.base CX k f fd ps sp) (hr : Room k A) (he : Env0 X.prog X.w X.K X.mg X.base A X.stack s H) (hb : Binds X.K fd ps []) (hx : PassesAt CX X σ E)
    (I : Inv X pins σ H s) (r : Vals vs us) (h : sp vs H Q E) : wpAny (model X.prog X.w) A (call (.ref f) us) (EP X pins σ Q) X.xe s := by
  have hl : us.length = ps.length := by rw [← r.length]; exact F.len _ _ _ _ h
  have b := hb s us I.kIn (by rw [List.append_nil]; exact hl)
  rw [List.append_nil] at b
  refine wpAny_call (codeAny_mono (F.run A X.stack s H ⟨us, []⟩ us vs Q E hr he b r h) fun r s' hq => ?_)
  cases r with
  | error e => exact hx pins H s e s' I hq
  | ok fl =>
    cases fl with
    | ret u => exact I.after hq
    | next => exact False.elim hq
    | brk => exact False.elim hq
    | cont => exact False.elim hq
/-- a value that is no instance above C: of C itself, or a tuple -/
def Beside (K : PySem.W.Frag) (C : Addr) (H : Hp) (y : V) : Prop := (∃ b dy gs, y = .ref b ∧ H b = some (.ins C dy gs)) ∨ (∃ b xs, y = .ref b ∧ SqT K H b xs)
theorem beside_look {pins : List (Addr × Obj)} {σ : L2.St} {H : Hp} {s : Shared} {M : Model} {y : V} {u : Value} (I : Inv X pins σ H s) (ry : RelV y u) (h : Beside X.K C H y) : ∃ tb, PySem.W.Looks M s.heap (typeOf u) tb ∧ (tb = .ref C ∨ tb = .type "tuple") := by
  rcases h with ⟨b, dy, gs, rfl, hb⟩ | ⟨b, xs, rfl, hb⟩
  · cases ry
    obtain ⟨mB, J, _⟩ := ins_get I.hok hb
    obtain ⟨od, J, _⟩ := J.look
    exact ⟨_, J.type, .inl rfl⟩
  · cases ry
    obtain ⟨its, r, pl, hz⟩ := I.tuple hb
    obtain ⟨o, ho, hc, n, hd⟩ := pl
    refine ⟨o.cls, (PySem.W.Looks.ld ho).andThen .now, .inr hc⟩
def rEqI (K : PySem.W.Frag) (C : Addr) (sp : Sp) : R2 := fun x y H Q => ∃ a dx fs, x = .ref a ∧ H a = some (.ins C dx fs) ∧ Beside K C H y ∧ sp [x, y] H (fun v H' => ∃ b, v = .bl b ∧ Q (.bl b) H') E0
theorem op_eqI (M : MtC X.prog X.w X.K X.mg X.base CX0 k C "__eq__" ["self", "other"] sp) (hn : PySem.W.notFirst X.K C (.type "tuple") = true) (hr : Room k X.A) : OpR X (compareOp .Eq) (rEqI X.K C sp) := by
  intro pins s σ H x y v u Q I rx ry h
  obtain ⟨a, dx, fs, rfl, ha, hb, hs⟩ := h
  obtain ⟨f, fd, F, hm, bi⟩ := M.ex
  cases rx
  obtain ⟨mA, J, _⟩ := ins_get I.hok ha
  obtain ⟨od, J, _⟩ := J.look
  obtain ⟨m, hF⟩ := I.fr
  obtain ⟨tb, ht, htb⟩ := beside_look (M := model X.prog X.w) I ry hb
  have hnf : PySem.W.notFirst X.K C tb = true := by
    rcases htb with rfl | rfl
    · simp [PySem.W.notFirst]
    · exact hn
  refine PySem.W.cmp_K (op := .Eq) (tb := tb) (by have := hr.un; omega) hF I.ok.mod.kin J ht hnf hm.at_ hm.fn ?_
  refine wpAny_mono (run_at F hr I.env0 bi (fun _ _ _ _ _ _ z => z.elim) I (us := [.ref a, u]) (vs := [.ref a, y]) (.cons rfl (.cons ry .nil)) hs) (fun w s' q => ?_) fun _ _ e => e
  obtain ⟨z, H', I', rz, b, rfl, q⟩ := q
  cases rz
  exact ⟨.bl b, H', I', rfl, q⟩
theorem ifBoundB_K {M : Model} {A : Around} {E : Value → Shared → Prop} {s : Shared} {K : PySem.W.Frag} {x C : Addr} {ox : Obj} {od : Option Obj} {name : Str} {id T : String} {args : List Value} {Q : Option Value → Shared → Prop} (X : K.In s.heap) (I : PySem.W.InstAt s.heap x ox C od) (hs : PySem.W.findIn K (.ref C) name = some (some (.builtin id))) (hf : Slot T name id)
    (h : wpAny M A (call (.builtin id) (.ref x :: args)) (fun v => Q (some v)) E s) : wpAny M A (callSpecialIfBound? (.ref x) name args) Q E s := by
  simp only [callSpecialIfBound?, bindSpecialIfBound?]
  refine wpAny_holding (wpAny_bind (wpAny_bind (wpAny_bind (I.type.here ((PySem.W.looks_findIn X hs).here ?_)))))
  simp only [hf.bind]
  refine wpAny_bind (wpAny_askSetting (wpAny_ite ?_))
  have fin : wpAny M A (call (.builtin id) ([.ref x] ++ args) >>= fun v => pure (some v)) Q E s := wpAny_bind (wpAny_mono h (fun v s' h' => wpAny_pure h') fun _ _ h' => h')
  split
  · exact wpAny_bind (wpAny_pure (wpAny_pure fin))
  · exact wpAny_tryCatch (wpAny_bind (wpAny_pure (wpAny_pure fin)))
theorem op_neI (M : MtC X.prog X.w X.K X.mg X.base CX0 k C "__eq__" ["self", "other"] sp) (hn : PySem.W.notFirst X.K C (.type "tuple") = true) (hne : PySem.W.findIn X.K (.ref C) "__ne__" = some (some (.builtin "object.__ne__"))) (hob : PySem.W.subIn X.K (.ref C) (.type "object") = some true)
    (hr : Room (k + 1) X.A) : OpR X (compareOp .NotEq) (fun x y H Q => rEqI X.K C sp x y H (fun v H' => ∃ b, v = .bl b ∧ Q (.bl (!b)) H')) := by
  intro pins s σ H x y v u Q I rx ry h
  obtain ⟨a, dx, fs, rfl, ha, hb, hs⟩ := h
  obtain ⟨f, fd, F, hm, bi⟩ := M.ex
  cases rx
  obtain ⟨mA, J, _⟩ := ins_get I.hok ha
  obtain ⟨od, J, _⟩ := J.look
  obtain ⟨tb, ht, htb⟩ := beside_look (M := model X.prog X.w) I ry hb
  have hnf : tb = .ref C ∨ PySem.W.subIn X.K tb (.ref C) = some false := by
    rcases htb with rfl | rfl
    · exact .inl rfl
    · right
      unfold PySem.W.notFirst at hn
      rcases Bool.or_eq_true_iff.mp hn with e | e
      · simp at e
      · exact beq_iff_eq.mp e
  have hu : X.A.units + 1 < cLine := by have := hr.un; omega
  have one : wpAny (model X.prog X.w) X.A (tryCompare (.ref a) "__ne__" u) (fun r s' => ∃ v, r = some v ∧ EP X pins σ Q v s') X.xe s := by
    unfold tryCompare
    refine wpAny_bind (ifBoundB_K I.kIn J hne PySem.F.cmp_object.ne (wpAny_call (codeAny_call_builtin PySem.F.cmp_object.ne.plain PySem.F.cmpEntry_ne (PySem.W.check_slot PySem.F.cmpKind_ne PySem.F.cmpSplit_ne (J.type.andThen (PySem.W.looks_subIn I.kIn hob)) (PySem.F.cmpArgs_ne _ _) ?_))))
    unfold Builtin.«object.__ne__»
    repeat (first
      | with_reducible refine wpAny_cRoomFor hu ?_
      | (refine wpAny_bind (m := callSpecialIfBound? (.ref a) (Str.ofString "__eq__") [u])
          (PySem.W.ifBound_K I.kIn J hm.at_ hm.fn (wpAny_mono (run_at (us := [.ref a, u]) (vs := [.ref a, y]) F hr.in1 I.env0.in1 bi (fun _ _ _ _ _ _ z => z.elim) I (.cons rfl (.cons ry .nil)) hs) (fun r s' hq => by
            obtain ⟨z, H', I', rz, b, rfl, b', eb, q⟩ := hq
            cases eb
            cases rz
            repeat (first | exact ⟨_, rfl, .bl (!b), H', I', rfl, q⟩ | exact wpAny_pure ⟨_, rfl, .bl (!b), H', I', rfl, q⟩ | exact ⟨_, rfl, .bl (!b), H', I', rfl, b, rfl, q⟩ | exact wpAny_pure ⟨_, rfl, .bl (!b), H', I', rfl, b, rfl, q⟩ | exact wpAny_truthy_bool (wpAny_pure (wpAny_pure ⟨_, rfl, .bl (!b), H', I', rfl, b, rfl, q⟩)) | (refine wpAny_bind (m := truthy (.bool _)) (wpAny_truthy_bool ?_)) | wp_step)) fun _ _ e => e)))
      | wp_step)
  show wpAny _ _ (richCompare .NotEq (.ref a) u) _ _ _
  unfold richCompare
  simp only [oneThing_ref]
  refine wpAny_holding (wpAny_bind (wpAny_cRoomFor (by omega) ?_))
  refine wpAny_bind (J.type.here (wpAny_bind (ht.here ?_)))
  split
  · rename_i qq
    have e : PySem.W.subIn X.K tb (.ref C) = some false := by
      rcases hnf with e | e
      · rw [e] at qq; simp at qq
      · exact e
    refine wpAny_bind ((PySem.W.looks_subIn I.kIn e).here ?_)
    simp only [Bool.false_eq_true, if_false]
    refine wpAny_bind (wpAny_mono one (fun r s' z => ?_) fun _ _ e => e)
    obtain ⟨v, rfl, hq⟩ := z
    exact wpAny_pure hq
  · refine wpAny_bind (wpAny_pure ?_)
    simp only [Bool.false_eq_true, if_false]
    refine wpAny_bind (wpAny_mono one (fun r s' z => ?_) fun _ _ e => e)
    obtain ⟨v, rfl, hq⟩ := z
    exact wpAny_pure hq
/-- len(o) -/
def rLenI (C : Addr) (sp : Sp) : List V → Hp → VK → Prop := fun xs H Q => ∃ a dx fs, xs = [.ref a] ∧ H a = some (.ins C dx fs) ∧ sp xs H (fun v H' => ∃ n : Int, v = .int n ∧ (0 ≤ n ∧ n < 2 ^ 63) ∧ Q (.int n) H') E0
theorem call_lenI (M : MtC X.prog X.w X.K X.mg X.base CX0 k C "__len__" ["self"] sp) (hr : Room (k + 1) X.A) : CallR X (.builtin "len") (rLenI C sp) := by
  intro pins s σ H xs us Q I r h
  obtain ⟨a, dx, fs, rfl, ha, hs⟩ := h
  obtain ⟨f, fd, F, hm, bi⟩ := M.ex
  obtain ⟨u, rfl, ru⟩ := vals1 r
  cases ru
  obtain ⟨mA, J, _⟩ := ins_get I.hok ha
  obtain ⟨od, J, _⟩ := J.look
  obtain ⟨m, hF⟩ := I.fr
  refine PySem.W.len_K hF I.ok.mod.kin J hm.at_ hm.fn ?_
  refine wpAny_mono (run_at F hr.in1 I.env0.in1 bi (fun _ _ _ _ _ _ z => z.elim) I (us := [.ref a]) (vs := [.ref a]) (.cons rfl .nil) hs) (fun w s' q => ?_) fun _ _ e => e
  obtain ⟨z, H', I', rz, n, rfl, hn, q⟩ := q
  obtain ⟨tk, rz⟩ := rz
  rw [rz]
  exact ⟨hn, .int n, H', I'.tok _, ⟨_, rfl⟩, q⟩
/-- o[i], by an own __getitem__ that may raise -/
def tIxI (C : Addr) (sp : Sp) (E : L2.St → XK) (ta tb : TE) : TE := fun σ H Q => ta σ H fun x H1 => tb σ H1 fun y H2 => ∃ a dx fs, x = .ref a ∧ H2 a = some (.ins C dx fs) ∧ sp [x, y] H2 Q (E σ)
theorem pe_ixI {E : L2.St → XK} {ta tb : TE} {a b : Expr} {pos : Pos} (M : MtC X.prog X.w X.K X.mg X.base CX k C "__getitem__" ["self", "index"] sp) (hfn : ∀ f, PySem.W.findIn X.K (.ref C) "__getitem__" = some (some (.ref f)) → PySem.W.fnIn X.K f = true) (hr : Room (k + 1) X.A) (hx : ∀ σ, PassesAt CX X σ (E σ)) (ha : PE X a ta) (hb : PE X b tb)
    (hsl : ∀ v u, subscripted b true v u = runValue (.builtin "lifetime.subscript" ⟨[v, u], []⟩) := by intro _ _; with_unfolding_all rfl) : PE X (.Subscript a b pos) (tIxI C sp E ta tb) := by
  refine ⟨fun pins s σ H Q I h => ?_⟩
  refine Subscript_ (thn (ha.run pins s σ H _ I h) fun v s1 ⟨x, H1, I1, rx, q1⟩ => thn (hb.run pins s1 σ H1 _ I1 q1) fun u s2 ⟨y, H2, I2, ry, a', dx, fs, ex, ea, q2⟩ => ?_)
  subst ex
  obtain rfl : v = Value.ref a' := rx
  obtain ⟨f, fd, F, hm, bi⟩ := M.ex
  obtain ⟨mA, J, _⟩ := ins_get I2.hok ea
  obtain ⟨od, J, _⟩ := J.look
  obtain ⟨m, hF⟩ := I2.fr
  refine PySem.W.sub_K hF I2.ok.mod.kin J hm.at_ (hfn f hm.at_) hm.fn ?_ (hsl _ _)
  exact run_at F hr.in1 I2.env0.in1 bi (hx σ) I2 (us := [.ref a', u]) (vs := [.ref a', y]) (.cons rfl (.cons ry .nil)) q2
end
end XX

set_option maxRecDepth 100000
set_option maxHeartbeats 4000000
namespace XX
open PySem PySem.Spec PyProof.Rows L2
/-! ### set(list of ints) -/
section
variable {prog : Program} {w : World} {A : Around} {E : Value → Shared → Prop} {s : Shared}
theorem call_setIl {l : Addr} {items : Array Value} {xs : List Int} {Q : Value → Shared → Prop} (hh : A.handled = none) (hl : s.heap.IsList l items) (hi : IntsAre items.toList xs) (hn : xs.length + 1 < scanBound)
    (h : ∀ (h' : Heap) (tk m : Nat), SetR w h' s.heap.objs.size (fun z => decide (z ∈ xs)) m → m ≤ xs.length → (∀ b o, b < s.heap.objs.size → s.heap.get? b = some o → h'.get? b = some o) → Q (.ref s.heap.objs.size) { s with heap := h', toks := tk }) :
    wpAny (model prog w) A (call (.type "set") [.ref l]) Q E s := by
  obtain ⟨c, tl, mro⟩ := PySem.F.called_set.mro
  have f1 := PySem.F.called_set.made
  have f2 := PySem.F.called_set.sub
  have f3 := PySem.F.called_set.notType
  have f4 := PySem.F.called_set.canCreate
  have f5 := PySem.F.typeCall_set_1 (.ref l)
  refine wpAny_call (codeAny_of_tree (by
    show wpAny _ _ (callAny (.type "set") _) _ _ _
    refine wpAny_pure ⟨Code.quiet_builtin _ (by decide +kernel), codeAny_builtin PySem.F.entry_type_call ?_⟩
    rw [Around.under_plain (weight_type_call_type "set" [.ref l] []) rfl]
    repeat (any_goals (first | assumption | wp_step))
    refine codeAny_mono (code_set_led1 (.ref l) (E := E) (Q₁ := fun ob s₁ => ob = .ref s.heap.objs.size ∧ s₁ = { s with heap := s.heap.push { cls := .type "set", dict := none, data := .set #[] 0 (.fresh 0 0 (!w.params.followText "set-order")) } }) ⟨rfl, rfl⟩) fun r s₁ hr => ?_
    match r, hr with
    | .error e, hr => exact hr
    | .ok .next, hr => exact hr.elim
    | .ok .brk, hr => exact hr.elim
    | .ok .cont, hr => exact hr.elim
    | .ok (.ret ob), ⟨eo, es⟩ =>
      subst eo es
      have g0 : (s.heap.push { cls := .type "set", dict := none, data := .set #[] 0 (.fresh 0 0 (!w.params.followText "set-order")) }).get? s.heap.objs.size = some { cls := .type "set", dict := none, data := .set #[] 0 (.fresh 0 0 (!w.params.followText "set-order")) } := Heap.get?_push_size _ rfl
      have ty : Shared.TypeIs { s with heap := s.heap.push { cls := .type "set", dict := none, data := .set #[] 0 (.fresh 0 0 (!w.params.followText "set-order")) } } (.ref s.heap.objs.size) "set" := ⟨_, g0, rfl⟩
      have i1 := PySem.F.called_set.init.lookup
      have i2 := PySem.F.called_set.init.bind (.ref s.heap.objs.size)
      repeat (any_goals (first | assumption | wp_step))
      refine codeAny_mono (codeAny_call_builtin (R := wants (fun r s₂ => r = .none ∧ ∃ h' tk m, s₂ = { s with heap := h', toks := tk } ∧ SetR w h' s.heap.objs.size (fun z => decide (z ∈ xs)) m ∧ m ≤ xs.length ∧
          (∀ b o, b < s.heap.objs.size → s.heap.get? b = some o → h'.get? b = some o)) E) PySem.F.called_set.init.plain PySem.F.entry_set_init (check_set_init_1 ty ?_)) fun r₂ s₂ hr₂ => ?_
      · obtain ⟨⟨oc, od, odt, osl⟩, hol, hcl, nl, hdl⟩ := hl
        simp only at hcl hdl
        subst hcl hdl
        have g1 : (s.heap.push { cls := .type "set", dict := none, data := .set #[] 0 (.fresh 0 0 (!w.params.followText "set-order")) }).get? l = some { cls := .type "list", dict := od, data := .seq items nl, slots := osl } := Heap.get?_push_of_some _ hol
        have s1 := PySem.F.sub_list_set
        have s2 := PySem.F.sub_list_frozenset
        have s3 : (Value.type "list" == Value.type "dict") = false := by decide
        have t1 : (s.heap.push { cls := .type "set", dict := none, data := .set #[] 0 (.fresh 0 0 (!w.params.followText "set-order")) }).IsList l items := ⟨_, g1, rfl, nl, rfl⟩
        unfold Builtin.«set.__init__» noKeywords Builtin.Frozenset.updateFrom
        generalize hPI : pyIter = PI
        wp_walk
        subst hPI
        refine wpAny_pyIter_list t1 (wpAny_bind (wpAny_runValue ?_))
        have lS : l < s.heap.objs.size := Heap.lt_size hol
        have zp : (s.heap.push { cls := .type "set", dict := none, data := .set #[] 0 (.fresh 0 0 (!w.params.followText "set-order")) }).objs.size = s.heap.objs.size + 1 := Heap.size_push ..
        have h3 : A.in1.in1.in1.handled = none := by simp [hh]
        have nI : l ≠ (s.heap.push { cls := .type "set", dict := none, data := .set #[] 0 (.fresh 0 0 (!w.params.followText "set-order")) }).objs.size := by
          rw [zp]
          exact Nat.ne_of_lt (Nat.lt_succ_of_lt lS)
        have nf : s.heap.objs.size ∉ [(s.heap.push { cls := .type "set", dict := none, data := .set #[] 0 (.fresh 0 0 (!w.params.followText "set-order")) }).objs.size, l] := by
          rw [zp]
          simp only [List.mem_cons, List.not_mem_nil, or_false, not_or]
          exact ⟨Nat.ne_of_lt (Nat.lt_succ_self _), Nat.ne_of_gt lS⟩
        have ez : items.size = xs.length := by
          have q := IntsAre.length hi
          rw [Array.length_toList] at q
          exact q
        refine set_update_ints ((Walks.list h3 _ l nI items).toS) s.heap.objs.size nf xs ez hn (fun i v hv => ?_) (items.size - 0) 0 _ (by omega) (Nat.zero_le _) ⟨⟨_, Heap.get?_push_size _ rfl, rfl, rfl⟩, t1.push _⟩ ?_ ?_
        · have iz : i < xs.length := by
            rw [← ez]
            exact (Array.getElem?_eq_some_iff.mp hv).1
          obtain ⟨t, e⟩ := PyProof.Rows.IntsAre.int_at hi i v (by rw [Array.getElem?_toList]; exact hv)
          refine ⟨xs[i], t, List.getElem?_eq_getElem iz, ?_⟩
          rw [e, List.getD_eq_getElem?_getD, List.getElem?_eq_getElem iz] <;> rfl
        · exact ⟨0, Nat.le_refl 0, setR_new_at (Heap.get?_push_of_some _ g0)⟩
        · rintro ⟨h', g', d', tk', os'⟩ m mv hc hS
          obtain rfl : g' = s.gens := mv.gens
          obtain rfl : d' = s.drawn := mv.drawn
          obtain rfl : os' = s.os := mv.os
          show wpAny _ _ _ _ _ _
          refine wpAny_pure ?_
          show wpAny _ _ (ret Value.none) _ _ _
          rw [ez] at hc
          refine wpAny_pure ⟨rfl, h', tk', m, rfl, hS, hc, fun b o hb e => ?_⟩
          refine mv.heap b o ?_ (Heap.get?_push_of_some _ (Heap.get?_push_of_some _ e))
          rw [zp]
          simp only [List.mem_cons, List.not_mem_nil, or_false, not_or]
          exact ⟨Nat.ne_of_lt hb, Nat.ne_of_lt (Nat.lt_succ_of_lt hb)⟩
      · match r₂, hr₂ with
        | .error e, hr₂ => exact hr₂
        | .ok .next, hr₂ => exact hr₂.elim
        | .ok .brk, hr₂ => exact hr₂.elim
        | .ok .cont, hr₂ => exact hr₂.elim
        | .ok (.ret r), ⟨er, h', tk, m, es, hS, hc, hk⟩ =>
          subst er es
          repeat (any_goals (first | assumption | wp_step))
          exact h _ _ _ hS hc hk))
end
def rSetI (K : PySem.W.Frag) (w : World) : List V → Hp → VK → Prop := fun vs H Q => ∃ (l : Addr) (ns : List Int), vs = [.ref l] ∧ SqL K H l (ns.map V.int) ∧ ns.length ≤ 1000 ∧ ∀ p m, H p = none → m ≤ ns.length → Q (.ref p) (upd H p (SetO w p (fun z => decide (z ∈ ns)) m))
theorem cr_setI {X : Cx} (hc : X.calm = true) : CallR X (.type "set") (rSetI X.K X.w) := by
  intro pins s σ H vs us Q I r h
  obtain ⟨l, ns, rfl, hq, h1, q⟩ := h
  rw [Vals.ref1 r]
  obtain ⟨its, rv, pl, hz⟩ := I.list hq
  refine call_setIl (I.ok.hd hc) pl.isList (ints_of_vals rv) (by unfold scanBound; omega) fun h' tk m R hm k => ?_
  have I2 : Inv X pins σ (upd H s.heap.objs.size (SetO X.w s.heap.objs.size (fun z => decide (z ∈ ns)) m)) { s with heap := h', toks := tk } := I.laid (t' := tk) (fun b u e => k b u (Heap.lt_size e) e) (Nat.le_refl _) (setO_new R)
  exact ⟨.ref _, _, I2, rfl, q _ m (I.hok.fresh (Nat.le_refl _)) hm⟩
end XX

set_option maxRecDepth 100000
set_option maxHeartbeats 4000000
namespace XX
open PySem PySem.Spec PyProof.Rows L2
/-! ### comprehensions with two fors -/
def Lc1W (J : It) (g : TG) (tt : TT) (te : TE) (vs : List Nat) (σ : L2.St) (H1 : Hp) (D : Addr) (Nx : Hp → Prop) : Prop := ∃ W1 : Nat → Nat → Hp → Prop, (∃ m, W1 0 m H1) ∧ ∀ j k H, W1 j k H →
  (J.stop j H ∧ Nx H) ∨ (J.go j H ∧ ∃ Nx1 : Hp → Prop, (∀ H', Nx1 H' → ∃ k', k' < k ∧ W1 (j + 1) k' H') ∧ ∀ x H', J.yld j H x H' → g x (wipe σ vs) H' fun σ3 H5 => wipe σ3 vs = wipe σ vs ∧ tt σ3 H5 fun b H6 =>
    if b = true then te σ3 H6 fun y H7 => ∃ acc, H7 D = some (.lst acc) ∧ acc.length < sizeLine ∧ Nx1 (upd H7 D (.lst (acc ++ [y]))) else Nx1 H6)
def Lc2W (J : It) (g : TG) (tt : TT) (wi1 : TI) (g1 : TG) (tt1 : TT) (te : TE) (vs vs1 : List Nat) (σ : L2.St) (H1 : Hp) (Q : VK) : Prop := ∀ D, H1 D = none → ∃ W : Nat → Nat → Hp → Prop, (∃ m, W 0 m (upd H1 D (.lst []))) ∧ ∀ i m H, W i m H →
  (J.stop i H ∧ Q (.ref D) H) ∨ (J.go i H ∧ ∃ Nx : Hp → Prop, (∀ H', Nx H' → ∃ m', m' < m ∧ W (i + 1) m' H') ∧ ∀ x H', J.yld i H x H' → g x (wipe σ vs) H' fun σ2 H2 => wipe σ2 vs = wipe σ vs ∧ tt σ2 H2 fun b H3 =>
    if b = true then wi1 σ2 H3 fun J1 H4 => Lc1W J1 g1 tt1 te vs1 σ2 H4 D Nx else Nx H3)
theorem tLc2_eq {wi wi1 : TI} {g g1 : TG} {tt tt1 : TT} {te : TE} {vs vs1 : List Nat} {σ : L2.St} {H : Hp} {Q : VK} : tLc2 wi g tt wi1 g1 tt1 te vs vs1 σ H Q = wi σ H (fun J H1 => Lc2W J g tt wi1 g1 tt1 te vs vs1 σ H1 Q) := rfl
theorem lc1_it {J : It} {n : Nat} {G : Hp → Prop} {Y : Nat → Hp → V → Hp → Prop} (w : Walk J n G Y) {g : TG} {tt : TT} {te : TE} {vs : List Nat} {σ : L2.St} {H1 : Hp} {D : Addr} {Nx : Hp → Prop} (P : Nat → Hp → Prop) (h0 : P 0 H1) (hG : ∀ i H, i ≤ n → P i H → G H)
    (hs : ∀ i x H H', i < n → P i H → Y i H x H' → g x (wipe σ vs) H' fun σ2 H2 => wipe σ2 vs = wipe σ vs ∧ tt σ2 H2 fun b H3 =>
      if b = true then te σ2 H3 fun y H4 => ∃ acc, H4 D = some (.lst acc) ∧ acc.length < sizeLine ∧ P (i + 1) (upd H4 D (.lst (acc ++ [y]))) else P (i + 1) H3) (hd : ∀ H, P n H → Nx H) : Lc1W J g tt te vs σ H1 D Nx := by
  refine ⟨fun i m H => m = n - i ∧ i ≤ n ∧ P i H, ⟨n, by simp, Nat.zero_le _, h0⟩, ?_⟩
  rintro i m H ⟨rfl, hi, p⟩
  have q := hG i H hi p
  by_cases hlt : i < n
  · exact .inr ⟨w.goes i H hlt q, P (i + 1), fun H' p' => ⟨n - (i + 1), by omega, rfl, hlt, p'⟩, fun x H' y => hs i x H H' hlt p (w.yields i H x H' hlt q y)⟩
  · have e : i = n := by omega
    subst e
    exact .inl ⟨w.stops H q, hd H p⟩
theorem lc2_it {J : It} {n : Nat} {G : Hp → Prop} {Y : Nat → Hp → V → Hp → Prop} (w : Walk J n G Y) {g : TG} {tt : TT} {wi1 : TI} {g1 : TG} {tt1 : TT} {te : TE} {vs vs1 : List Nat} {σ : L2.St} {H1 : Hp} {Q : VK} (P : Addr → Nat → Hp → Prop) (h0 : ∀ D, H1 D = none → P D 0 (upd H1 D (.lst [])))
    (hG : ∀ D i H, i ≤ n → P D i H → G H)
    (hs : ∀ D i x H H', H1 D = none → i < n → P D i H → Y i H x H' → g x (wipe σ vs) H' fun σ2 H2 => wipe σ2 vs = wipe σ vs ∧ tt σ2 H2 fun b H3 =>
      if b = true then wi1 σ2 H3 fun J1 H4 => Lc1W J1 g1 tt1 te vs1 σ2 H4 D (P D (i + 1)) else P D (i + 1) H3) (hd : ∀ D H, H1 D = none → P D n H → Q (.ref D) H) : Lc2W J g tt wi1 g1 tt1 te vs vs1 σ H1 Q := by
  intro D hD
  refine ⟨fun i m H => m = n - i ∧ i ≤ n ∧ P D i H, ⟨n, by simp, Nat.zero_le _, h0 D hD⟩, ?_⟩
  rintro i m H ⟨rfl, hi, p⟩
  have q := hG D i H hi p
  by_cases hlt : i < n
  · exact .inr ⟨w.goes i H hlt q, P D (i + 1), fun H' p' => ⟨n - (i + 1), by omega, rfl, hlt, p'⟩, fun x H' y => hs D i x H H' hD hlt p (w.yields i H x H' hlt q y)⟩
  · have e : i = n := by omega
    subst e
    exact .inl ⟨w.stops H q, hd D H hD p⟩
/-! ### == of two dicts of data under the same keys -/
inductive HitsD (K : PySem.W.Frag) (H : Hp) (kb : List (Key × V)) : List (Key × V) → Bool → Prop
  | nil : HitsD K H kb [] true
  | hit {k : Key} {v y : V} {d e : PyData} {r : List (Key × V)} {b : Bool} : valV kb k = some y → Dp K H v d → Dp K H y e → SeqAt.shaped d = true → SeqAt.shaped e = true → HitsD K H kb r b → HitsD K H kb ((k, v) :: r) (PyData.eqv d e && b)
theorem hitsD_run {X : Cx} {pins : List (Addr × Obj)} {σ : L2.St} {H : Hp} {s : Shared} (I : Inv X pins σ H s) {A : Around} (hu : A.units + 64 < cLine) {kb : List (Key × V)} {vb : List (Key × Value)} (rb : KV kb vb) : ∀ {ka : List (Key × V)} {r : Bool} {va : List (Key × Value)}, HitsD X.K H kb ka r → KV ka va → PySem.W.KeqHitsP X.prog X.w A s vb va r
  | _, _, _, .nil, .nil => .nil
  | _, _, _, .hit (k := k) (d := d) (e := e) hv hd he sd se t, .cons (b := kv) ⟨e1, r1⟩ rt => by
    have rr := rb.val k
    rw [hv] at rr
    obtain ⟨u, hu2, ru⟩ := rr.some_of
    obtain ⟨as, q1⟩ := Dp.reads I d _ _ hd r1
    obtain ⟨bs, q2⟩ := Dp.reads I e _ _ he ru
    obtain ⟨key, v⟩ := kv
    have e1 : k = key := e1
    subst e1
    exact .hit hu2 (fun E Q q => SeqAt.eqBoolOverData _ _ _ _ _ _ _ _ _ _ _ _ q1 q2 (SeqAt.canLay_of_shaped sd) (SeqAt.canLay_of_shaped se) (SeqAt.room_of_shaped sd hu) q) (hitsD_run I hu rb t rt)
def rEqK (K : PySem.W.Frag) : R2 := fun x y H Q => ∃ (a b : Addr) (ka kb : List (Key × V)) (r : Bool), x = .ref a ∧ y = .ref b ∧ H a = some (.dK ka) ∧ H b = some (.dK kb) ∧ ka.length = kb.length ∧ HitsD K H kb ka r ∧ Q (.bl r) H
theorem op_eqK {X : Cx} (hu : X.A.units + 65 < cLine) : OpR X (compareOp .Eq) (rEqK X.K) := by
  intro pins s σ H x y v u Q I rx ry h
  obtain ⟨a, b, ka, kb, r, rfl, rfl, ha, hb, hl, hh, q⟩ := h
  cases (show v = Value.ref a from rx)
  cases (show u = Value.ref b from ry)
  obtain ⟨_, ya, va, ra, da⟩ := dk_of I.hok ha
  obtain ⟨_, yb, vb, rb, db⟩ := dk_of I.hok hb
  refine PySem.W.rcP_dicts (knd := mixKind X.prog X.w) (r := r) ya yb da db (by omega) (fun _ => hitsD_run I (A := X.A.in1) (by show X.A.units + 1 + 64 < cLine; omega) rb hh ra) _ _ ?_
  have e : va.length = vb.length := by rw [← ra.length, ← rb.length]; exact hl
  have e2 : (va.length == vb.length && r) = r := by rw [e, beq_self_eq_true, Bool.true_and]
  rw [e2]
  exact ⟨.bl r, H, I, rfl, q⟩
theorem pa_starK {X : Cx} {e : Expr} {es : List Expr} {te : TE} {t : TA} {p : Pos} (K : PySem.W.Frag) (h : X.K = K) (he : PE X e te) (hr : PA X es t) (hs : starEach (.Starred e p :: es) X.env = (true, eval e X.env) :: starEach es X.env := by rfl) : PA X (.Starred e p :: es) (StX.tStar K te t) := by
  subst h
  exact StX.pa_star he hr hs
end XX

set_option maxRecDepth 100000
set_option maxHeartbeats 4000000
namespace XX
open PySem PySem.Spec PyProof.Rows L2
/-! ### methods of built-ins where the frozen part is told (within try and except) -/
theorem pe_bmK {X : Cx} {o e : Expr} {es : List Expr} {to : TE} {t : TA} {name : Str} {apos cpos : Pos} {T id : String} {r : V → List V → Hp → VK → Prop} (K : PySem.W.Frag) (h : X.K = K) (pa : PlainAttrs T) (slot : Slot T name id)
    (hty : typeOf (.builtin id) = pure (.type "method_descriptor")) (hm : MtR X id r) (ho : PE X o to) (ha : PA X (e :: es) t) (b1 : attributeBase o name X.env (eval o X.env) = eval o X.env := by rfl)
    (b2 : ((backTo cpos (starEach (e :: es) X.env)).all (fun x => !x.1) && (backToKw cpos (keywordEach [] X.env)).all (fun x => x.1.isSome) && decide ((e :: es).length + ([] : List Keyword).length + (if ([] : List Keyword).isEmpty then 0 else 1) < 30)) = true := by rfl)
    (b3 : (apos.endLine == cpos.line) = true := by rfl) (b4 : starEach (e :: es) X.env = (false, eval e X.env) :: starEach es X.env := by rfl) (b5 : (backTo cpos (starEach es X.env)).any (·.1) = false := by rfl) :
    PE X (.Call (.Attribute o name apos) (e :: es) [] cpos) (tBM K T r to t) := by
  subst h
  exact pe_bm pa slot hty hm ho ha b1 b2 b3 b4 b5
end XX

set_option maxRecDepth 100000
set_option maxHeartbeats 4000000
namespace XX
open PySem PySem.Spec PyProof.Rows L2
/-! ### defs that may raise, called outside of try too -/
section
variable {P : Program} {w : World} {K : PySem.W.Frag} {mg : Str → Option Value} {base : Heap}
theorem Def.okX {x : Str} {st : Stmt} {N ps : List Str} {k : Nat} {sp : Sp} (D : Def K mg x st ps) (S : FnScope N ps (defScope st)) (len : ∀ vs H Q E, sp vs H Q E → vs.length = ps.length)
    (hbody : ∀ (f : Addr) (cdv : Value) (A : Around) (outer : List Env) (s : Shared) (H : Hp) (vs : List V) (Q : VK) (E : XK), Room k (A.deeper (envOfC x (defScope st) s.heap.objs.size f cdv)) → sp vs H Q E →
      ∃ t, PSs (cxOf (L2.CX P w) P w K mg base N x (defScope st) f cdv A outer s H E) (defBody st) t ∧ t { nx := fun _ H' => Q .non H', rt := Q } (start N vs) H) : FnC P w K mg base (L2.CX P w) (k + 1) x ps sp := by
  obtain ⟨f, fd, F, hm, hb⟩ := D.ex
  exact ⟨f, fd, F.okX S len (hbody f), hm, F.kp, hb⟩
end
section
variable {X : Cx} {CX : CXT} {k : Nat} {x : Str} {ps : List Str} {sp : Sp} {p pos : Pos} {e : Expr} {es : List Expr} {t : TA} {E : L2.St → XK}
theorem pe_cX (c : FnC X.prog X.w X.K X.mg X.base CX k x ps sp) (hr : Room k X.A) (hx : ∀ σ, PassesAt CX X σ (E σ)) (hg : Gl X x) (ha : PA X (e :: es) t) (hdb : (x == ("__debug__" : Str)) = false := by decide)
    (h1 : starEach (e :: es) X.env = (false, eval e X.env) :: starEach es X.env := by rfl) (h2 : (backTo pos (starEach es X.env)).any (·.1) = false := by rfl) : PE X (.Call (.Name x p) (e :: es) [] pos) (tCallS sp E t) := by
  obtain ⟨f, fd, F, hm, hk, hb⟩ := c.ex
  exact pe_callS F hr hg hm hk hb hx ha hdb h1 h2
end
/-! ### dict comprehensions -/
def DcW (J : It) (g : TG) (tt : TT) (tk tv : TE) (vs : List Nat) (σ : L2.St) (H1 : Hp) (Q : VK) : Prop := ∀ D, H1 D = none → ∃ W : Nat → Nat → Hp → Prop, (∃ m, W 0 m (upd H1 D (.dK []))) ∧ ∀ i m H, W i m H →
  (J.stop i H ∧ Q (.ref D) H) ∨ (J.go i H ∧ ∃ Nx : Hp → Prop, (∀ H', Nx H' → ∃ m', m' < m ∧ W (i + 1) m' H') ∧ ∀ x H', J.yld i H x H' → g x (wipe σ vs) H' fun σ2 H2 => wipe σ2 vs = wipe σ vs ∧ tt σ2 H2 fun b H3 =>
    if b = true then tk σ2 H3 fun y H4 => tv σ2 H4 fun z H5 => ∃ kvs k, y = kV k ∧ H5 D = some (.dK kvs) ∧ kvs.length < sizeLine ∧ Nx (upd H5 D (.dK (putK kvs k z))) else Nx H3)
theorem tDc_eq {wi : TI} {g : TG} {tt : TT} {tk tv : TE} {vs : List Nat} {σ : L2.St} {H : Hp} {Q : VK} : tDc wi g tt tk tv vs σ H Q = wi σ H (fun J H1 => DcW J g tt tk tv vs σ H1 Q) := rfl
theorem dcw_it {J : It} {n : Nat} {G : Hp → Prop} {Y : Nat → Hp → V → Hp → Prop} (w : Walk J n G Y) {g : TG} {tt : TT} {tk tv : TE} {vs : List Nat} {σ : L2.St} {H1 : Hp} {Q : VK} (P : Addr → Nat → Hp → Prop) (h0 : ∀ D, H1 D = none → P D 0 (upd H1 D (.dK [])))
    (hG : ∀ D i H, i ≤ n → P D i H → G H)
    (hs : ∀ D i x H H', H1 D = none → i < n → P D i H → Y i H x H' → g x (wipe σ vs) H' fun σ2 H2 => wipe σ2 vs = wipe σ vs ∧ tt σ2 H2 fun b H3 =>
      if b = true then tk σ2 H3 fun y H4 => tv σ2 H4 fun z H5 => ∃ kvs k, y = kV k ∧ H5 D = some (.dK kvs) ∧ kvs.length < sizeLine ∧ P D (i + 1) (upd H5 D (.dK (putK kvs k z))) else P D (i + 1) H3) (hd : ∀ D H, H1 D = none → P D n H → Q (.ref D) H) : DcW J g tt tk tv vs σ H1 Q := by
  intro D hD
  refine ⟨fun i m H => m = n - i ∧ i ≤ n ∧ P D i H, ⟨n, by simp, Nat.zero_le _, h0 D hD⟩, ?_⟩
  rintro i m H ⟨rfl, hi, p⟩
  have q := hG D i H hi p
  by_cases hlt : i < n
  · exact .inr ⟨w.goes i H hlt q, P D (i + 1), fun H' p' => ⟨n - (i + 1), by omega, rfl, hlt, p'⟩, fun x H' y => hs D i x H H' hD hlt p (w.yields i H x H' hlt q y)⟩
  · have e : i = n := by omega
    subst e
    exact .inl ⟨w.stops H q, hd D H hD p⟩
end XX

set_option maxRecDepth 100000
set_option maxHeartbeats 4000000
namespace YY
open PySem PySem.Spec PyProof.Rows L2 XX
local macro_rules | `(tactic| walk_at "wp") => `(tactic| simp only [tPar3, rIndex, tAug, rExt2, tSeq, tNext, tAsg, tPar, gName, tCB, tCons, tNil, tVar, tC, tOp, tUn, rI, rI0, rU, tLst, tTup, tFor_eq, iRng1, iRng2, iList, iTup, tRet, tRetN, tDrop, tIfS, tTest, tB, tAnd, tOr, tNot, tIf, tAndV, tOrV, tNotV, tCall, tBM, tBM0, rIxL, rIxT, rAppend, tLc_eq, gSub, rSetL, rEq, rNe, rMulS, rIxS, tRevT, gTup, gCons, gNil, wipe, tYes, LcEnd, tDisp, tPairs, tChain, tSl, tPart, tNoPart, rSlT, rSlL, rCatT, rCat, rRep, rIsD, V.ty.injEq, iZipB, tDNewK, tXf, wMA, wAs, rLenK, tLenSetS, rReprE, tVeI, tOst, tErr, tMkO, sFld, tFld, rIsE2, tMakeS, rListStr, tDNotIn, tDIn, tDGet, rSetD, gSub, iEnumA, rIxD, iStr, rIn, rEqI, rLenI, tIxI, rSetI, rSortedSet, rEqK, rEqV, tCallS, tDc_eq, tLc2_eq, tMeth, tMethX, StX.tStar, tLock, tLockE, iItems, iKeys,
  cxOf_K, cxOf_noxK, L2.start, List.map_cons, List.map_nil, List.length_cons, List.length_nil, Nat.reduceAdd, Nat.reduceSub, List.replicate_succ, List.replicate_zero, List.replicate, List.cons_append, List.nil_append, List.getElem?_cons_zero, List.getElem?_cons_succ, List.set_cons_zero, List.set_cons_succ, List.append_nil,
  Option.some.injEq, V.int.injEq, V.ref.injEq, V.bl.injEq, V.str.injEq, List.cons.injEq, and_true, true_and, exists_eq_left', exists_eq_left, exists_and_left, exists_and_right, exists_const, bool_ite_true, bool_ite_false, dec_ite, ndec_ite, reduceCtorEq, false_or, or_false, false_and, and_false, decide_eq_true_eq, and_assoc, reduceIte, ite_true, ite_false, Int.zero_add])

abbrev sAreV : Stmt := topS 5
abbrev sWoZ : Stmt := topS 6
def valsB (ds : List PyData) : Bool := decide (ds.length ≤ 60) && ds.all fun d => btw d 0 2
section
variable {P : Program} {w : World} {K : PySem.W.Frag} {mg : Str → Option Value} {base : Heap}
/-! ### are_values -/
def spAreV (K : PySem.W.Frag) : Sp := fun vs H Q _ => ∃ (t : Bool) (a : Addr) (xs : List V) (ds : List PyData), vs = [.ref a] ∧ SqA t K H a xs ∧ DpAll K H xs ds ∧ xs.length ≤ 900 ∧ ∀ G, Same H G → Q (.bl (valsB ds)) G
theorem scAreV : FnScope ["values", "value"] ["values"] (defScope sAreV) := ⟨rfl, rfl, rfl, by decide +kernel, rfl, by decide +kernel, by decide +kernel⟩
theorem c_areV {tk : Tok} (D : Def K mg "are_values" sAreV ["values"]) (T : Bl2 mg) (gM : mg "MOST_VALUES" = some (.int 60 tk)) (cB : FnC P w K mg base CX0 2 "is_between" ["value", "least", "most"] (spIsBetween K)) : FnC P w K mg base CX0 3 "are_values" ["values"] (spAreV K) := by
  refine D.ok scAreV (fun vs H Q E h => ?_) (fun f cdv A outer s H vs Q E hr h => ?_)
  · obtain ⟨t, a, xs, ds, rfl, _⟩ := h
    rfl
  · obtain ⟨t, a, xs, ds, rfl, hx, hd, hl, k⟩ := h
    have sc := scAreV
    have el := dpAll_len hd
    cases t with
    | false =>
      refine ⟨_, (pss_one (ps_ret (pe_and (pe_cmpR op_le (pe_callB call_len_seq (by rfl) T.n_len (by decide +kernel) (pa_cons (pv 0) pa_nil)) (pe_glob (v := .int 60) rfl gM ⟨_, rfl⟩) (nomark _)) (pe_one (pe_callB (cr_all rfl) (by rfl) T.n_all (by decide +kernel) (pa_cons (pe_lc (own := [("value", 1)]) (g := gName 1) (tt := tYes) rfl sc.nd (pi_list (pv 0)) (blkOk_by (N := ["values", "value"]) (sc := defScope sAreV) (by decide +kernel)) (fun _ _ _ _ _ => (pg_name (i := 1) sc.nd rfl (Or.inl rfl))) (fun _ _ _ _ _ => pts_nil) (fun _ _ _ _ _ => (pe_c cB hr rfl (pa_cons (pv 1) (pa_cons pe_int (pa_cons pe_int pa_nil)))))) pa_nil)))))), ?_⟩
      walk_at "wp"
      have hq : SqL K H a xs := hx
      refine ⟨xs, .inl hq, ite2 (fun c => ⟨⟨xs, hq⟩, ?_⟩) fun c => ?_⟩
      · refine lcw_gen walk_list (fun i => (ds[i]?).map fun d => V.bl (btw d 0 2)) (by omega) (fun H' e => Same.sqL e hq) ?_ ?_
        · rintro i x G1 G2 Nx Q' hi hG ⟨rfl, hx⟩ q _
          walk_at "wp"
          obtain ⟨e, he, hde⟩ := dpAll_get hd hx
          exact ⟨x, e, 0, 2, rfl, dp_same hG _ _ hde, q _ _ (by rw [he]; rfl) (Same.refl _)⟩
        · rintro D G hG hD hL
          have e2 : (List.range xs.length).filterMap (fun i => (ds[i]?).map fun d => V.bl (btw d 0 2)) = (ds.map fun d => btw d 0 2).map V.bl := by
            rw [el, List.map_map]
            exact filterMap_get ds _
          rw [e2] at hL
          refine ⟨D, _, rfl, SqL.of hL, ?_⟩
          have e3 : valsB ds = (ds.map fun d => btw d 0 2).all id := by
            unfold valsB
            rw [decide_eq_true (by omega), Bool.true_and, List.all_map]
            rfl
          rw [← e3]
          exact k G hG
      · have e3 : valsB ds = false := by
          unfold valsB
          rw [decide_eq_false (by omega), Bool.false_and]
        rw [← e3]
        exact k H (Same.refl H)
    | true =>
      refine ⟨_, (pss_one (ps_ret (pe_and (pe_cmpR op_le (pe_callB call_len_seq (by rfl) T.n_len (by decide +kernel) (pa_cons (pv 0) pa_nil)) (pe_glob (v := .int 60) rfl gM ⟨_, rfl⟩) (nomark _)) (pe_one (pe_callB (cr_all rfl) (by rfl) T.n_all (by decide +kernel) (pa_cons (pe_lc (own := [("value", 1)]) (g := gName 1) (tt := tYes) rfl sc.nd (pi_tup (pv 0)) (blkOk_by (N := ["values", "value"]) (sc := defScope sAreV) (by decide +kernel)) (fun _ _ _ _ _ => (pg_name (i := 1) sc.nd rfl (Or.inl rfl))) (fun _ _ _ _ _ => pts_nil) (fun _ _ _ _ _ => (pe_c cB hr rfl (pa_cons (pv 1) (pa_cons pe_int (pa_cons pe_int pa_nil)))))) pa_nil)))))), ?_⟩
      walk_at "wp"
      have hq : SqT K H a xs := hx
      refine ⟨xs, .inr hq, ite2 (fun c => ⟨⟨xs, hq⟩, ?_⟩) fun c => ?_⟩
      · refine lcw_gen walk_tup (fun i => (ds[i]?).map fun d => V.bl (btw d 0 2)) (by omega) (fun H' e => Same.sqT e hq) ?_ ?_
        · rintro i x G1 G2 Nx Q' hi hG ⟨rfl, hx⟩ q _
          walk_at "wp"
          obtain ⟨e, he, hde⟩ := dpAll_get hd hx
          exact ⟨x, e, 0, 2, rfl, dp_same hG _ _ hde, q _ _ (by rw [he]; rfl) (Same.refl _)⟩
        · rintro D G hG hD hL
          have e2 : (List.range xs.length).filterMap (fun i => (ds[i]?).map fun d => V.bl (btw d 0 2)) = (ds.map fun d => btw d 0 2).map V.bl := by
            rw [el, List.map_map]
            exact filterMap_get ds _
          rw [e2] at hL
          refine ⟨D, _, rfl, SqL.of hL, ?_⟩
          have e3 : valsB ds = (ds.map fun d => btw d 0 2).all id := by
            unfold valsB
            rw [decide_eq_true (by omega), Bool.true_and, List.all_map]
            rfl
          rw [← e3]
          exact k G hG
      · have e3 : valsB ds = false := by
          unfold valsB
          rw [decide_eq_false (by omega), Bool.false_and]
        rw [← e3]
        exact k H (Same.refl H)
end
end YY

set_option maxRecDepth 100000
set_option maxHeartbeats 4000000
namespace YY
open PySem PySem.Spec PyProof.Rows L2 XX
local macro_rules | `(tactic| walk_at "wp") => `(tactic| simp only [tPar3, rIndex, tAug, rExt2, tSeq, tNext, tAsg, tPar, gName, tCB, tCons, tNil, tVar, tC, tOp, tUn, rI, rI0, rU, tLst, tTup, tFor_eq, iRng1, iRng2, iList, iTup, tRet, tRetN, tDrop, tIfS, tTest, tB, tAnd, tOr, tNot, tIf, tAndV, tOrV, tNotV, tCall, tBM, tBM0, rIxL, rIxT, rAppend, tLc_eq, gSub, rSetL, rEq, rNe, rMulS, rIxS, tRevT, gTup, gCons, gNil, wipe, tYes, LcEnd, tDisp, tPairs, tChain, tSl, tPart, tNoPart, rSlT, rSlL, rCatT, rCat, rRep, rIsD, V.ty.injEq, iZipB, tDNewK, tXf, wMA, wAs, rLenK, tLenSetS, rReprE, tVeI, tOst, tErr, tMkO, sFld, tFld, rIsE2, tMakeS, rListStr, tDNotIn, tDIn, tDGet, rSetD, gSub, iEnumA, rIxD, iStr, rIn, rEqI, rLenI, tIxI, rSetI, rSortedSet, rEqK, rEqV, tCallS, tDc_eq, tLc2_eq, tMeth, tMethX, StX.tStar, tLock, tLockE, iItems, iKeys,
  cxOf_K, cxOf_noxK, L2.start, List.map_cons, List.map_nil, List.length_cons, List.length_nil, Nat.reduceAdd, Nat.reduceSub, List.replicate_succ, List.replicate_zero, List.replicate, List.cons_append, List.nil_append, List.getElem?_cons_zero, List.getElem?_cons_succ, List.set_cons_zero, List.set_cons_succ, List.append_nil,
  Option.some.injEq, V.int.injEq, V.ref.injEq, V.bl.injEq, V.str.injEq, List.cons.injEq, and_true, true_and, exists_eq_left', exists_eq_left, exists_and_left, exists_and_right, exists_const, bool_ite_true, bool_ite_false, dec_ite, ndec_ite, reduceCtorEq, false_or, or_false, false_and, and_false, decide_eq_true_eq, and_assoc, reduceIte, ite_true, ite_false, Int.zero_add])

/-! ### without_zeros -/
def trimZ (ns : List Int) : List Int := (ns.reverse.dropWhile fun n => n == 0).reverse
theorem trimZ_zero (ns : List Int) : trimZ (ns ++ [0]) = trimZ ns := by
  unfold trimZ
  rw [List.reverse_append]
  rfl
theorem trimZ_keep {ns : List Int} {n : Int} (h : n ≠ 0) : trimZ (ns ++ [n]) = ns ++ [n] := by
  unfold trimZ
  rw [List.reverse_append]
  show ((n :: ns.reverse).dropWhile fun n => n == 0).reverse = _
  rw [List.dropWhile_cons, if_neg (by simpa using h), List.reverse_cons, List.reverse_reverse]
theorem take_last {ns : List Int} {m : Nat} {n : Int} (h : ns[m]? = some n) : ns.take (m + 1) = ns.take m ++ [n] := by
  rw [List.take_succ, h]
  rfl
theorem cutV_whole {xs : List V} {lo hi : Option Int} (h : HT.sIx xs.length 0 lo = 0 ∧ HT.sIx xs.length xs.length hi = xs.length) : cutV xs lo hi = xs := by
  unfold cutV
  rw [h.1, h.2]
  simp
theorem slc {K : PySem.W.Frag} {a : Addr} {xs : List V} {lo hi : Option Int} {H : Hp} {Q : VK} (h : SqT K H a xs) (q : ∀ r H', Same H H' → SqT K H' r (cutV xs lo hi) → Q (.ref r) H') : rSlA K (.ref a) lo hi H Q :=
  ⟨a, xs, rfl, h, fun hw => q a H (Same.refl H) (by rw [cutV_whole hw]; exact h), fun _ p hp => q p _ (same_new hp) (SqT.of upd_same)⟩
theorem cut_take (xs : List V) {m : Nat} (h : m ≤ xs.length) : cutV xs none (some (m : Int)) = xs.take m := by
  have e1 : HT.sIx xs.length xs.length (some (m : Int)) = m := by
    show (if ((m : Nat) : Int) < 0 then (((m : Nat) : Int) + (xs.length : Int)).toNat else min ((m : Nat) : Int).toNat xs.length) = m
    rw [if_neg (by omega)]
    omega
  have e3 : HT.sIx xs.length 0 none = 0 := rfl
  unfold cutV
  rw [e1, e3, Nat.sub_zero, List.drop_zero]
section
variable {P : Program} {w : World} {K : PySem.W.Frag} {mg : Str → Option Value} {base : Heap}
def spWoZ (K : PySem.W.Frag) : Sp := fun vs H Q _ => ∃ (a : Addr) (ns : List Int), vs = [.ref a] ∧ SqT K H a (ns.map V.int) ∧ ns.length ≤ 900 ∧ ∀ D G, Same H G → SqT K G D ((trimZ ns).map V.int) → Q (.ref D) G
theorem scWoZ : FnScope ["values", "many"] ["values"] (defScope sWoZ) := ⟨rfl, rfl, rfl, by decide +kernel, rfl, by decide +kernel, by decide +kernel⟩
theorem c_woZ (D : Def K mg "without_zeros" sWoZ ["values"]) (T : Bl2 mg) (n_len : mg "len" = none) : FnC P w K mg base CX0 1 "without_zeros" ["values"] (spWoZ K) := by
  refine D.ok scWoZ (fun vs H Q E h => ?_) (fun f cdv A outer s H vs Q E hr h => ?_)
  · obtain ⟨a, ns, rfl, _⟩ := h
    rfl
  · obtain ⟨a, ns, rfl, ha, hl, k⟩ := h
    have sc := scWoZ
    refine ⟨_, (pss_cons (ps_set (i := 1) sc.nd rfl (Or.inl rfl) (pe_callB call_len_seq (by rfl) n_len (by decide +kernel) (pa_cons (pv 0) pa_nil)))
    (pss_cut (ps_while PassesOwn.never (PW.pt (pw_and (pt_cmpR op_gt (pv 1) pe_int (nomark _)) (pw_and1 (pt_cmpR op_eq (pe_ix ix_tup (pv 0) (pe_op op_sub (pv 1) pe_int) (fun _ _ => rfl)) pe_int (nomark _))))) (pss_one (ps_aug (i := 1) sc.nd rfl (Or.inl rfl) pe_int ip_sub)))
    (pss_one (ps_ret (pe_callTy call_tuple_of (by rfl) T.n_tuple (by decide +kernel) (pa_cons (pe_slice sl_tupA (pv 0) po_none (po_some (pv 1))) pa_nil)))))), ?_⟩
    walk_at "wp"
    refine ⟨_, .inr ha, ?_⟩
    refine ⟨fun τ G => ∃ m : Nat, τ = [some (.ref a), some (.int (m : Nat))] ∧ G = H ∧ m ≤ ns.length ∧ trimZ ns = ns.take m, ?_, ?_⟩
    · walk_at "wp"
      refine ⟨fun m' τ G => ∃ m : Nat, m' = m ∧ τ = [some (.ref a), some (.int (m : Nat))] ∧ G = H ∧ m ≤ ns.length ∧ trimZ (ns.take m) = trimZ ns, ⟨_, ns.length, rfl, by rw [List.length_map], rfl, Nat.le_refl _, by rw [List.take_length]⟩, ?_⟩
      rintro m' τ G ⟨m, rfl, rfl, rfl, hm, hz⟩
      walk_at "wp"
      refine ite2 (fun c => ?_) fun c => ?_
      · obtain ⟨j, rfl⟩ : ∃ j, m' = j + 1 := ⟨m' - 1, by omega⟩
        obtain ⟨n, hn⟩ : ∃ n, ns[j]? = some n := ⟨_, List.getElem?_eq_getElem (by omega)⟩
        have ht := take_last hn
        refine ⟨_, ha, .int n, at_of (j := j) (by omega) (by rw [List.getElem?_map, hn]; rfl), rfl, ite2 (fun c2 => ?_) fun c2 => ?_⟩
        · have e0 : n = 0 := by
            injection c2
          refine ⟨fun σ' H' => σ' = [some (.ref a), some (.int (j : Nat))] ∧ H' = G, fun σ' H' z => ⟨j, Nat.lt_succ_self j, z.1, z.2, by omega, ?_⟩, ⟨_, _, rfl, rfl, ⟨by
            show [some (V.ref a), some (V.int (((j + 1 : Nat) : Int) - 1))] = _
            rw [show (((j + 1 : Nat) : Int) - 1) = ((j : Nat) : Int) by omega], rfl⟩⟩⟩
          rw [← hz, ht, e0, trimZ_zero]
        · refine ⟨j + 1, rfl, hm, ?_⟩
          rw [← hz, ht, trimZ_keep fun z => c2 (by rw [z])]
      · have e : m' = 0 := by omega
        subst e
        exact ⟨0, rfl, Nat.zero_le _, by rw [← hz]; rfl⟩
    rintro τ G ⟨m, rfl, rfl, hm, hz⟩
    walk_at "wp"
    refine slc ha fun r G2 e hr2 => ⟨r, rfl, _, .inr ⟨hr2, k r G2 e ?_⟩⟩
    rw [cut_take _ (by rw [List.length_map]; exact hm), ← List.map_take, ← hz] at hr2
    exact hr2
end
end YY

set_option maxRecDepth 100000
set_option maxHeartbeats 4000000
namespace YY
open PySem PySem.Spec PyProof.Rows L2 XX
local macro_rules | `(tactic| walk_at "wp") => `(tactic| simp only [tPar3, rIndex, tAug, rExt2, tSeq, tNext, tAsg, tPar, gName, tCB, tCons, tNil, tVar, tC, tOp, tUn, rI, rI0, rU, tLst, tTup, tFor_eq, iRng1, iRng2, iList, iTup, tRet, tRetN, tDrop, tIfS, tTest, tB, tAnd, tOr, tNot, tIf, tAndV, tOrV, tNotV, tCall, tBM, tBM0, rIxL, rIxT, rAppend, tLc_eq, gSub, rSetL, rEq, rNe, rMulS, rIxS, tRevT, gTup, gCons, gNil, wipe, tYes, LcEnd, tDisp, tPairs, tChain, tSl, tPart, tNoPart, rSlT, rSlL, rCatT, rCat, rRep, rIsD, V.ty.injEq, iZipB, tDNewK, tXf, wMA, wAs, rLenK, tLenSetS, rReprE, tVeI, tOst, tErr, tMkO, sFld, tFld, rIsE2, tMakeS, rListStr, tDNotIn, tDIn, tDGet, rSetD, gSub, iEnumA, rIxD, iStr, rIn, rEqI, rLenI, tIxI, rSetI, rSortedSet, rEqK, rEqV, tCallS, tDc_eq, tLc2_eq, tMeth, tMethX, StX.tStar, tLock, tLockE, iItems, iKeys,
  cxOf_K, cxOf_noxK, L2.start, List.map_cons, List.map_nil, List.length_cons, List.length_nil, Nat.reduceAdd, Nat.reduceSub, List.replicate_succ, List.replicate_zero, List.replicate, List.cons_append, List.nil_append, List.getElem?_cons_zero, List.getElem?_cons_succ, List.set_cons_zero, List.set_cons_succ, List.append_nil,
  Option.some.injEq, V.int.injEq, V.ref.injEq, V.bl.injEq, V.str.injEq, List.cons.injEq, and_true, true_and, exists_eq_left', exists_eq_left, exists_and_left, exists_and_right, exists_const, bool_ite_true, bool_ite_false, dec_ite, ndec_ite, reduceCtorEq, false_or, or_false, false_and, and_false, decide_eq_true_eq, and_assoc, reduceIte, ite_true, ite_false, Int.zero_add])

abbrev sValOf : Stmt := topS 14
def itemsOf : PyData → Option (List PyData)
  | .list ds => some ds
  | .tuple ds => some ds
  | _ => none
def isTupD : PyData → Bool
  | .tuple _ => true
  | _ => false
def intOf : PyData → Int
  | .int i => i
  | _ => 0
/-- the first row that is none -/
theorem dpE_same {K : PySem.W.Frag} {H G : Hp} {v : V} {d : PyData} (e : Same H G) (h : DpE K H v d) : DpE K G v d := by
  rcases h with h | ⟨rfl, a, rfl, h⟩
  · exact .inl (dp_same e _ _ h)
  · exact .inr ⟨rfl, a, rfl, e _ _ h⟩
theorem isTy_seq (d : PyData) : (isTy (tyOf d) "list" || isTy (tyOf d) "tuple") = (itemsOf d).isSome := by cases d <;> rfl
theorem sqA_or {K : PySem.W.Frag} {t : Bool} {H : Hp} {a : Addr} {xs : List V} (h : SqA t K H a xs) : SqL K H a xs ∨ SqT K H a xs := by
  cases t
  · exact .inl h
  · exact .inr h
theorem sqA_same {K : PySem.W.Frag} {t : Bool} {H G : Hp} {a : Addr} {xs : List V} (e : Same H G) (h : SqA t K H a xs) : SqA t K G a xs := by
  cases t
  · exact Same.sqL e h
  · exact Same.sqT e h
theorem seqOf {K : PySem.W.Frag} {H : Hp} {v : V} {d : PyData} {ds : List PyData} (hi : itemsOf d = some ds) (h : DpE K H v d) : ∃ a xs, v = .ref a ∧ SqA (isTupD d) K H a xs ∧ DpAll K H xs ds := by
  rcases h with h | ⟨rfl, _⟩
  · cases h with
    | lst h1 h2 =>
      cases hi
      exact ⟨_, _, rfl, h1, h2⟩
    | tup h1 h2 =>
      cases hi
      exact ⟨_, _, rfl, h1, h2⟩
    | _ => cases hi
  · cases hi
theorem int_btw {K : PySem.W.Frag} {H : Hp} {v : V} {d : PyData} {lo hi : Int} (h : btw d lo hi = true) (hv : Dp K H v d) : d = .int (intOf d) ∧ v = .int (intOf d) := by
  cases hv with
  | int i => exact ⟨rfl, rfl⟩
  | _ => cases h
def raisesV (cls : Addr) (v : V) (H : Hp) (E : XK) : Prop := ∀ G d, Same H G → G d = none → E (.ref cls) (some d) (upd G d (.xd [("value", v)]))
theorem raisesV.same {cls : Addr} {v : V} {H G : Hp} {E : XK} (e : Same H G) (h : raisesV cls v H E) : raisesV cls v G E := fun F d s n => h F d (e.trans s) n
structure IsC (K : PySem.W.Frag) (C : Addr) : Prop where
  at_ : PySem.W.findIn K (.ref C) "__class__" = some (some (.builtin "object.__class__"))
  sp : PySem.W.specialIn K (.builtin "object.__class__") "__get__" = some (some (.builtin "getset_descriptor.__get__"))
  tk : PySem.W.takesIn K (.builtin "object.__class__") = some true
  mro : PySem.W.mroIn K C (.type "object") = some true
theorem kit_self (K : PySem.W.Frag) (C : Addr) : PySem.W.kitOne K (.ref C) (.ref C) = some true := by
  unfold PySem.W.kitOne
  rw [if_pos (by simp)]
/-- what no Data is -/
structure NoD (K : PySem.W.Frag) (C : Addr) : Prop where
  non : PySem.W.kitOne K (.type "NoneType") (.ref C) = some false
  bool : PySem.W.kitOne K (.type "bool") (.ref C) = some false
  int : PySem.W.kitOne K (.type "int") (.ref C) = some false
  str : PySem.W.kitOne K (.type "str") (.ref C) = some false
  list : PySem.W.kitOne K (.type "list") (.ref C) = some false
  tup : PySem.W.kitOne K (.type "tuple") (.ref C) = some false
  dict : PySem.W.kitOne K (.type "dict") (.ref C) = some false
theorem NoD.of {K : PySem.W.Frag} {C : Addr} (n : NoD K C) (d : PyData) : PySem.W.kitOne K (.type (tyOf d)) (.ref C) = some false := by
  cases d with
  | none => exact n.non
  | bool b => exact n.bool
  | int i => exact n.int
  | str z => exact n.str
  | list ds => exact n.list
  | tuple ds => exact n.tup
  | dict kvs => exact n.dict
structure DatC (K : PySem.W.Frag) (C : Addr) : Prop where
  cls : Cls K C
  n1 : NoAttr K C "digits"
def DatAt (K : PySem.W.Frag) (C : Addr) (H : Hp) (x : Addr) (ns : List Int) : Prop := ∃ dx t, H x = some (.ins C dx [("digits", .ref t)]) ∧ SqT K H t (ns.map V.int)
def valsOf (d : PyData) : Option (List Int) := match itemsOf d with
  | some ds => if valsB ds = true then some (ds.map intOf) else none
  | none => none
theorem vals_ints {K : PySem.W.Frag} {H : Hp} : ∀ {xs : List V} {ds : List PyData}, DpAll K H xs ds → (ds.all fun d => btw d 0 2) = true → xs = (ds.map intOf).map V.int
  | _, _, .nil, _ => rfl
  | _, _, .cons (v := v) (d := d) h t, e => by
    rw [List.all_cons, Bool.and_eq_true] at e
    have h1 := int_btw e.1 h
    rw [List.map_cons, List.map_cons, ← vals_ints t e.2, ← h1.2]
section
variable {P : Program} {w : World} {K : PySem.W.Frag} {mg : Str → Option Value} {base : Heap}
def spValOf (K : PySem.W.Frag) (C cB : Addr) : Sp := fun vs H Q E => ∃ v, vs = [v] ∧ ((∃ x ns, v = .ref x ∧ DatAt K C H x ns ∧ ∀ t, SqT K H t (ns.map V.int) → Q (.ref t) H) ∨
  ∃ d, DpE K H v d ∧ (∀ ds, itemsOf d = some ds → ds.length ≤ 900) ∧ (valsOf d = none → raisesV cB v H E) ∧ ∀ ns, valsOf d = some ns → ∀ D G, Same H G → SqT K G D (ns.map V.int) → Q (.ref D) G)
theorem scValOf : FnScope ["other"] ["other"] (defScope sValOf) := ⟨rfl, rfl, rfl, by decide +kernel, rfl, by decide +kernel, by decide +kernel⟩
theorem c_valOf {C fI : Addr} {fdI : FuncData} {cB : Addr} (D : Def K mg "_values_of" sValOf ["other"]) (T : Bl2 mg) (n_len : mg "len" = none) (dc : DatC K C) (gD : mg "Data" = some (.ref C)) (ic : IsC K C) (nd : NoD K C) (EB : ErrC K mg "BadData" cB fI)
    (cI : FnOk P w K mg base CX0 1 fI fdI ["self", "value"] (spErr K)) (hbI : Binds K fdI ["self", "value"] []) (cA : FnC P w K mg base CX0 3 "are_values" ["values"] (spAreV K)) : FnC P w K mg base (L2.CX P w) 4 "_values_of" ["other"] (spValOf K C cB) := by
  refine D.okX scValOf (fun vs H Q E h => ?_) (fun f' cdv A outer s H vs Q E hr h => ?_)
  · obtain ⟨v, rfl, _⟩ := h
    rfl
  · obtain ⟨v, rfl, h⟩ := h
    have sc := scValOf
    have hr2 : Room 2 _ := hr.mono (by decide)
    refine ⟨_, (pss_cons (ps_if (pt_val (pe_callB call_isi (by rfl) T.n_isinstance (by decide +kernel) (pa_cons (pv 0) (pa_cons (pe_glob (v := .ref C) rfl gD rfl) pa_nil)))) (pss_one (ps_ret (pe_fld (pv 0) rfl))) pss_nil)
    (pss_cut (ps_if (PW.pt (pw_or (pt_not (pt_val (pe_callB (call_isE2 ty_list ty_tuple) (by rfl) T.n_isinstance (by decide +kernel) (pa_cons (pv 0) (pa_cons (pe_tup (pa_cons (pe_ty "list" (by rfl) T.n_list) (pa_cons (pe_ty "tuple" (by rfl) T.n_tuple) pa_nil))) pa_nil))))) (pw_or1 (pt_not (pt_val (pe_c cA hr rfl (pa_cons (pv 0) pa_nil))))))) (pss_one (ps_err EB cI hbI hr2 rfl (takes_of rfl rfl rfl rfl) (pv 0) rfl)) pss_nil)
    (pss_one (ps_ret (pe_callTy call_tuple_of (by rfl) T.n_tuple (by decide +kernel) (pa_cons (pv 0) pa_nil)))))), ?_⟩
    walk_at "wp"
    rcases h with ⟨x, ns, rfl, ⟨dx, t, hx, ht⟩, q⟩ | ⟨d, hd, hlen, kerr, k⟩
    · exact ⟨_, _, _, _, true, rfl, .own C, .base (.ins hx dc.cls ic.at_ ic.sp ic.tk ic.mro), kit_self K C, true, rfl, ⟨x, rfl, C, dx, _, hx, dc.cls, dc.n1, _, rfl, q t ht⟩⟩
    · refine ⟨_, _, _, _, false, rfl, .own C, ty_dpE hd, nd.of d, false, rfl, ?_⟩
      rw [if_neg Bool.false_ne_true]
      refine ⟨fun τ G => τ = [some v] ∧ Same H G ∧ ∃ ns, valsOf d = some ns, ?_, ?_⟩
      · walk_at "wp"
        refine ⟨by decide, fun p np => ⟨upd_same, d, dpE_same (same_new np) hd, ?_⟩⟩
        rw [isTy_seq]
        have s1 := same_new (o := .tup [V.ty "list", V.ty "tuple"]) np
        cases hi : itemsOf d with
        | none =>
          rw [if_pos (by rfl)]
          exact err_of2 EB.oex EB.no fun d' hd' => kerr (by unfold valsOf; rw [hi]) _ d' s1 hd'
        | some ds =>
          rw [if_neg (show ¬ (!(some ds).isSome) = true from Bool.false_ne_true)]
          obtain ⟨a, xs, rfl, hq, hda⟩ := seqOf hi hd
          refine ⟨isTupD d, a, xs, ds, rfl, sqA_same s1 hq, dps_same s1 _ _ hda, by rw [dpAll_len hda]; exact hlen ds hi, fun G e => ⟨_, rfl, ?_⟩⟩
          cases hv : valsB ds with
          | false =>
            rw [if_pos (by rfl)]
            exact err_of2 EB.oex EB.no fun d' hd' => kerr (by unfold valsOf; rw [hi]; exact if_neg (by rw [hv]; exact Bool.false_ne_true)) _ d' (s1.trans e) hd'
          | true =>
            rw [if_neg (show ¬ (!true) = true from Bool.false_ne_true)]
            exact ⟨s1.trans e, ds.map intOf, by unfold valsOf; rw [hi]; exact if_pos hv⟩
      rintro τ G ⟨rfl, g, ns, hns⟩
      walk_at "wp"
      cases hi : itemsOf d with
      | none =>
        unfold valsOf at hns
        rw [hi] at hns
        cases hns
      | some ds =>
        obtain ⟨a, xs, rfl, hq, hda⟩ := seqOf hi hd
        have hv : valsB ds = true ∧ ns = ds.map intOf := by
          unfold valsOf at hns
          rw [hi] at hns
          by_cases e : valsB ds = true
          · exact ⟨e, (Option.some.inj ((if_pos e).symm.trans hns)).symm⟩
          · exact absurd ((if_neg e).symm.trans hns) (by simp)
        have hx : xs = ns.map V.int := by
          rw [hv.2]
          refine vals_ints hda ?_
          have h2 := hv.1
          unfold valsB at h2
          rw [Bool.and_eq_true] at h2
          exact h2.2
        have hq2 := sqA_same g hq
        refine ⟨a, rfl, xs, ?_⟩
        cases ht : isTupD d with
        | false =>
          rw [ht] at hq2
          exact .inl ⟨hq2, fun l hl => k ns hns l _ (g.trans (same_new hl)) (SqT.of (by rw [upd_same, hx]))⟩
        | true =>
          rw [ht] at hq2
          exact .inr ⟨hq2, k ns hns a G g (by rw [← hx]; exact hq2)⟩
end
end YY

set_option maxRecDepth 100000
set_option maxHeartbeats 4000000
namespace YY
open PySem PySem.Spec PyProof.Rows L2 XX
local macro_rules | `(tactic| walk_at "wp") => `(tactic| simp only [tPar3, rIndex, tAug, rExt2, tSeq, tNext, tAsg, tPar, gName, tCB, tCons, tNil, tVar, tC, tOp, tUn, rI, rI0, rU, tLst, tTup, tFor_eq, iRng1, iRng2, iList, iTup, tRet, tRetN, tDrop, tIfS, tTest, tB, tAnd, tOr, tNot, tIf, tAndV, tOrV, tNotV, tCall, tBM, tBM0, rIxL, rIxT, rAppend, tLc_eq, gSub, rSetL, rEq, rNe, rMulS, rIxS, tRevT, gTup, gCons, gNil, wipe, tYes, LcEnd, tDisp, tPairs, tChain, tSl, tPart, tNoPart, rSlT, rSlL, rCatT, rCat, rRep, rIsD, V.ty.injEq, iZipB, tDNewK, tXf, wMA, wAs, rLenK, tLenSetS, rReprE, tVeI, tOst, tErr, tMkO, sFld, tFld, rIsE2, tMakeS, rListStr, tDNotIn, tDIn, tDGet, rSetD, gSub, iEnumA, rIxD, iStr, rIn, rEqI, rLenI, tIxI, rSetI, rSortedSet, rEqK, rEqV, tCallS, tDc_eq, tLc2_eq, tMeth, tMethX, StX.tStar, tLock, tLockE, iItems, iKeys,
  cxOf_K, cxOf_noxK, L2.start, List.map_cons, List.map_nil, List.length_cons, List.length_nil, Nat.reduceAdd, Nat.reduceSub, List.replicate_succ, List.replicate_zero, List.replicate, List.cons_append, List.nil_append, List.getElem?_cons_zero, List.getElem?_cons_succ, List.set_cons_zero, List.set_cons_succ, List.append_nil,
  Option.some.injEq, V.int.injEq, V.ref.injEq, V.bl.injEq, V.str.injEq, List.cons.injEq, and_true, true_and, exists_eq_left', exists_eq_left, exists_and_left, exists_and_right, exists_const, bool_ite_true, bool_ite_false, dec_ite, ndec_ite, reduceCtorEq, false_or, or_false, false_and, and_false, decide_eq_true_eq, and_assoc, reduceIte, ite_true, ite_false, Int.zero_add])

/-! ### Data.__init__ -/
abbrev sDInit : Stmt := inClass (topS 13) 0
def Ex (x : Addr) (H G : Hp) : Prop := ∀ b o, b ≠ x → H b = some o → G b = some o
theorem ex_upd {x : Addr} {H : Hp} {o : HO} : Ex x H (upd H x o) := fun b u hb h => by
  rw [upd_ne hb]
  exact h
theorem sqT_ex {K : PySem.W.Frag} {x C dx a : Addr} {fs : List (Str × V)} {H G : Hp} {xs : List V} (hx : H x = some (.ins C dx fs)) (e : Ex x H G) (h : SqT K H a xs) : SqT K G a xs := by
  rcases h with (h | ⟨o, h⟩) | h
  · exact .inl (.inl (e _ _ (ne_of h hx (by intro z; cases z)) h))
  · exact .inl (.inr ⟨o, e _ _ (ne_of h hx (by intro z; cases z)) h⟩)
  · exact .inr h
def spDI (K : PySem.W.Frag) (C cB : Addr) : Sp := fun vs H Q E => ∃ (x dx p : Addr) (xs : List V) (ds : List PyData), vs = [.ref x, .ref p] ∧ H x = some (.ins C dx []) ∧ SqT K H p xs ∧ DpAll K H xs ds ∧ xs.length ≤ 900 ∧ (valsB ds = false → raisesV cB (.ref p) H E) ∧
  (valsB ds = true → ∀ t G, Ex x H G → G x = some (.ins C dx [("digits", .ref t)]) → SqT K G t ((trimZ (ds.map intOf)).map V.int) → Q .non G)
theorem scDI : FnScope ["self", "values"] ["self", "values"] (defScope sDInit) := ⟨rfl, rfl, rfl, by decide +kernel, rfl, by decide +kernel, by decide +kernel⟩
section
variable {P : Program} {w : World} {K : PySem.W.Frag} {mg : Str → Option Value} {base : Heap}
theorem b_DI {C fI f : Addr} {fdI : FuncData} {cB : Addr} {cdv : Value} {A : Around} {outer : List Env} {s : Shared} {H : Hp} {vs : List V} {Q : VK} {E : XK} (dc : DatC K C) (EB : ErrC K mg "BadData" cB fI)
    (cI : FnOk P w K mg base CX0 1 fI fdI ["self", "value"] (spErr K)) (hbI : Binds K fdI ["self", "value"] []) (cA : FnC P w K mg base CX0 3 "are_values" ["values"] (spAreV K)) (cZ : FnC P w K mg base CX0 1 "without_zeros" ["values"] (spWoZ K))
    (hr : Room 3 (A.deeper (envOfC "Data.__init__" (defScope sDInit) s.heap.objs.size f cdv))) (h : spDI K C cB vs H Q E) :
    ∃ t, PSs (cxOf (L2.CX P w) P w K mg base ["self", "values"] "Data.__init__" (defScope sDInit) f cdv A outer s H E) (defBody sDInit) t ∧ t { nx := fun _ H' => Q .non H', rt := Q } (L2.start ["self", "values"] vs) H := by
  obtain ⟨x, dx, p, xs, ds, rfl, hx, hp, hd, hl, kerr, k⟩ := h
  have sc := scDI
  have hr1 : Room 1 _ := hr.mono (by decide)
  have hr2 : Room 2 _ := hr.mono (by decide)
  refine ⟨_, (pss_cut (ps_if (pt_not (pt_val (pe_c cA hr rfl (pa_cons (pv 1) pa_nil)))) (pss_one (ps_err EB cI hbI hr2 rfl (takes_of rfl rfl rfl rfl) (pv 1) rfl)) pss_nil)
    (pss_one (ps_fld (pv 0) (pe_c cZ hr1 rfl (pa_cons (pv 1) pa_nil)) rfl))), ?_⟩
  refine ⟨fun τ G => τ = [some (.ref x), some (.ref p)] ∧ Same H G ∧ valsB ds = true, ?_, ?_⟩
  · walk_at "wp"
    refine ⟨true, p, xs, ds, rfl, hp, hd, hl, fun G e => ⟨_, rfl, ?_⟩⟩
    cases hv : valsB ds with
    | false =>
      rw [if_pos (by rfl)]
      exact err_of2 EB.oex EB.no fun d' hd' => kerr hv _ d' e hd'
    | true =>
      rw [if_neg (show ¬ (!true) = true from Bool.false_ne_true)]
      exact ⟨e, rfl⟩
  rintro τ G ⟨rfl, g, hv⟩
  have kk := k hv
  walk_at "wp"
  have hxs : xs = (ds.map intOf).map V.int := by
    refine vals_ints hd ?_
    unfold valsB at hv
    rw [Bool.and_eq_true] at hv
    exact hv.2
  have el := dpAll_len hd
  have hp2 : SqT K G p ((ds.map intOf).map V.int) := by
    rw [← hxs]
    exact Same.sqT g hp
  refine ⟨p, ds.map intOf, rfl, hp2, by rw [List.length_map]; omega, fun D G2 e hD => ⟨C, dx, [], e _ _ (g _ _ hx), dc.cls, dc.n1, by decide, kk D _ (fun b o hb hh => ?_) upd_same ?_⟩⟩
  · rw [upd_ne hb]
    exact e _ _ (g _ _ hh)
  · exact sqT_ex (e _ _ (g _ _ hx)) ex_upd hD
end
end YY

set_option maxRecDepth 100000
set_option maxHeartbeats 4000000
namespace L2
open PySem PySem.Spec PyProof.Rows XX
theorem tuple_mul1 (l : Addr) (items : Array Value) (n : Nat) (dd : Option Addr) (sl : Array (Option Value)) (x : Int) (u : Tok) (c0 : (decide (x < -(2 ^ 63)) || decide (x ≥ 2 ^ 63)) = false) (c1 : (items.isEmpty || x == 1) = true) :
    Meets (Builtin.«tuple.__mul__» ⟨[.ref l, .int x u], []⟩) (fun _ R s => s.heap.get? l = some { cls := .type "tuple", dict := dd, data := .seq items n, slots := sl } ∧ R (.ok (.ret (.ref l))) s) :=
  .of_wp fun prog w A R s h => by
    obtain ⟨hp, g, d, tk, os⟩ := s
    obtain ⟨hl, h⟩ := h
    have f1 := AutoSeq1.idx_int
    wp_walk using wpAny_loadPart' hl
    repeat (first
      | (refine wpAny_ite_false (decide_eq_false (by rw [c0]; exact Bool.false_ne_true)) ?_; wp_walk using wpAny_loadPart' hl)
      | (refine wpAny_ite_true (decide_eq_true (by rw [c1])) ?_; wp_walk using wpAny_loadPart' hl))
    exact ⟨_, rfl, h⟩
theorem tuple_mul0 (l : Addr) (items : Array Value) (n : Nat) (dd : Option Addr) (sl : Array (Option Value)) (x : Int) (u : Tok) (c0 : (decide (x < -(2 ^ 63)) || decide (x ≥ 2 ^ 63)) = false) (c1 : (items.isEmpty || x == 1) = false) (c2 : (decide (x ≤ 0) || items.isEmpty) = true) :
    Meets (Builtin.«tuple.__mul__» ⟨[.ref l, .int x u], []⟩) (fun _ R s => s.heap.get? l = some { cls := .type "tuple", dict := dd, data := .seq items n, slots := sl } ∧
      R (.ok (.ret (Value.ref s.heap.objs.size))) { s with heap := s.heap.push { cls := Value.type "tuple", data := Data.seq #[] }, toks := s.toks }) :=
  .of_wp fun prog w A R s h => by
    obtain ⟨hp, g, d, tk, os⟩ := s
    obtain ⟨hl, h⟩ := h
    have f1 := AutoSeq1.idx_int
    wp_walk using wpAny_loadPart' hl
    repeat (first
      | (refine wpAny_ite_false (decide_eq_false (by rw [c0]; exact Bool.false_ne_true)) ?_; wp_walk using wpAny_loadPart' hl)
      | (refine wpAny_ite_false (decide_eq_false (by rw [c1]; exact Bool.false_ne_true)) ?_; wp_walk using wpAny_loadPart' hl)
      | (refine wpAny_ite_true (decide_eq_true (by rw [c2])) ?_; wp_walk using wpAny_loadPart' hl))
    exact ⟨_, rfl, h⟩
theorem same_laid {H : Hp} {q : Addr} {o : HO} (e : H q = none) : Same H (upd H q o) := fun b u hb => by
  have hne : b ≠ q := fun z => by
    rw [z, e] at hb
    cases hb
  rw [upd_ne hne]
  exact hb
section
variable {X : Cx}
/-- t * k for any k up to 1000 -/
def rRepA (K : PySem.W.Frag) : R2 := fun x y H Q => ∃ l k xs, x = .ref l ∧ y = .int k ∧ SqT K H l xs ∧ -1000 ≤ k ∧ k ≤ 1000 ∧ xs.length ≤ 1000 ∧ ∀ p G, Same H G → SqT K G p (List.replicate k.toNat xs).flatten → Q (.ref p) G
theorem op_repA : OpR X (binaryOp .Mult) (rRepA X.K) := by
  intro pins s σ H x y v u Q I rx ry h
  obtain ⟨l, k, xs, rfl, rfl, hT, h1, h2, hz, q⟩ := h
  by_cases hb : xs ≠ [] ∧ 2 ≤ k
  · exact op_repT pins s σ H _ _ v u Q I rx ry ⟨l, k, xs, rfl, rfl, hT, hb.1, hb.2, h2, hz, fun p hp => q p _ (same_laid hp) (SqT.of upd_same)⟩
  cases rx
  obtain ⟨t, rfl⟩ := ry
  obtain ⟨its, r, ⟨⟨cls, dd, data, sl⟩, ho, hc, n, hd⟩, hs⟩ := I.tuple hT
  simp only at hc hd
  subst hc hd
  have c0 : (decide (k < -(2 ^ 63)) || decide (k ≥ 2 ^ 63)) = false := by
    rw [decide_eq_false (by omega), decide_eq_false (by omega)] <;> rfl
  by_cases c1 : (its.toArray.isEmpty || k == 1) = true
  · refine wpAny_binaryOp_repeat_ref (T := "tuple") (U := "int") (by decide) ⟨_, ho, rfl⟩ (fun s' => typeIs_int s' k t) noFill_tuple_mul F.fills_int_mul F.slot_int_rmul repeat_tuple F.slot_int_index.lookup
      (call_meets F.slot_int_rmul (typeIs_int s k t) F.entry_int_rmul (F.args_int_rmul_2 _ _) (int_rmul_tuple k t l its.toArray n dd sl)
        ⟨ho, rfl, ⟨_, ho, rfl⟩, call_meets F.slot_tuple_mul ⟨_, ho, rfl⟩ F.entry_tuple_mul (F.args_tuple_mul_2 _ _) (tuple_mul1 l its.toArray n dd sl k t c0 c1) ⟨ho, ?_⟩⟩)
    refine ⟨.ref l, H, I, rfl, q l H (Same.refl _) ?_⟩
    have e : (List.replicate k.toNat xs).flatten = xs := by
      rcases Bool.or_eq_true_iff.mp c1 with e | e
      · have hi : its = [] := by
          cases its with
          | nil => rfl
          | cons a b => cases e
        subst hi
        cases r
        simp
      · have : k = 1 := by simpa using e
        subst this
        simp
    rw [e]
    exact hT
  · have c1 : (its.toArray.isEmpty || k == 1) = false := by simpa using c1
    have hne : xs ≠ [] := fun e => by
      subst e
      cases r
      simp at c1
    have hk1 : k ≠ 1 := fun e => by
      subst e
      simp at c1
    have hk : k ≤ 0 := by
      have : ¬ 2 ≤ k := fun e => hb ⟨hne, e⟩
      omega
    refine wpAny_binaryOp_repeat_ref (T := "tuple") (U := "int") (by decide) ⟨_, ho, rfl⟩ (fun s' => typeIs_int s' k t) noFill_tuple_mul F.fills_int_mul F.slot_int_rmul repeat_tuple F.slot_int_index.lookup
      (call_meets F.slot_int_rmul (typeIs_int s k t) F.entry_int_rmul (F.args_int_rmul_2 _ _) (int_rmul_tuple k t l its.toArray n dd sl)
        ⟨ho, rfl, ⟨_, ho, rfl⟩, call_meets F.slot_tuple_mul ⟨_, ho, rfl⟩ F.entry_tuple_mul (F.args_tuple_mul_2 _ _) (tuple_mul0 l its.toArray n dd sl k t c0 c1 (by rw [decide_eq_true hk]; rfl)) ⟨ho, ?_⟩⟩)
    have e : (List.replicate k.toNat xs).flatten = [] := by
      rw [show k.toNat = 0 by omega]
      rfl
    refine ⟨.ref s.heap.objs.size, _, I.laid (t' := s.toks) (o := .tup []) (fun b ob q => Heap.get?_push_of_some _ q) (Nat.le_refl _) ?_, rfl, q _ _ (same_laid (I.hok.fresh (Nat.le_refl _))) (by rw [e]; exact SqT.of upd_same)⟩
    exact ⟨by simp, [], .nil, IsTup.new _ _⟩
end
end L2

set_option maxRecDepth 100000
set_option maxHeartbeats 4000000
namespace XX
open PySem PySem.Spec PyProof.Rows L2
section
variable {X : Cx} {k : Nat} {C : Addr} {sp : Sp}
/-- repr(o), by an own __repr__ -/
def rReprI (C : Addr) (sp : Sp) : List V → Hp → VK → Prop := fun xs H Q => ∃ a dx fs, xs = [.ref a] ∧ H a = some (.ins C dx fs) ∧ sp xs H (fun v H' => ∃ z : Str, v = .str z ∧ Q (.str z) H') E0
theorem call_reprI (M : MtC X.prog X.w X.K X.mg X.base CX0 k C "__repr__" ["self"] sp) (hr : Room (k + 1) X.A) : CallR X (.builtin "repr") (rReprI C sp) := by
  intro pins s σ H xs us Q I r h
  obtain ⟨a, dx, fs, rfl, ha, hs⟩ := h
  obtain ⟨f, fd, F, hm, bi⟩ := M.ex
  obtain ⟨u, rfl, ru⟩ := vals1 r
  cases ru
  obtain ⟨mA, J, _⟩ := ins_get I.hok ha
  obtain ⟨od, J, _⟩ := J.look
  obtain ⟨m, hF⟩ := I.fr
  refine PySem.W.repr_K (by have := hr.un; have := hr.in1.un; omega) hF I.ok.mod.kin J hm.at_ hm.fn ?_
  refine wpAny_mono (run_at F hr.in1 I.env0.in1 bi (fun _ _ _ _ _ _ z => z.elim) I (us := [.ref a]) (vs := [.ref a]) (.cons rfl .nil) hs) (fun w s' q => ?_) fun _ _ e => e
  obtain ⟨z, H', I', rz, x, rfl, q⟩ := q
  obtain ⟨tk, rz⟩ := rz
  rw [rz]
  exact (show EP X pins σ Q (.str x tk) s' from ⟨.str x, H', I', ⟨_, rfl⟩, q⟩)
end
end XX

set_option maxRecDepth 100000
set_option maxHeartbeats 4000000
namespace XX
open PySem PySem.Spec PyProof.Rows L2
section
variable {X : Cx} {CX : CXT} {k : Nat} {f C : Addr} {sp : Sp} {E : XK} {x : Str} {e : Expr} {te : TE} {p sp_ pos : Pos}
/-- C(*y): an instance made of the items of y -/
def tMakeV (K : PySem.W.Frag) (C : Addr) (sp : Sp) (E : XK) (te : TE) : TE := fun σ H Q => te σ H fun y H1 => ∃ a xs, y = V.ref a ∧ (SqT K H1 a xs ∨ SqL K H1 a xs) ∧ ∀ z dx, H1 z = none → H1 dx = none → dx ≠ z →
  sp (V.ref z :: xs) (upd (upd H1 dx (.own z)) z (.ins C dx [])) (fun v H2 => v = .non ∧ Q (.ref z) H2) E
theorem pe_makeV (M : Mk X.K C f) (F : FnR X.prog X.w X.K X.mg X.base CX k f sp) (hr : Room (k + 1) X.A) (hg : Gl X x) (hm : X.mg x = some (.ref C)) (hx : Passes CX X E) (he : PE X e te) (hd : (x == ("__debug__" : Str)) = false := by decide)
    (hst : starEach [.Starred e sp_] X.env = [(true, eval e X.env)] := by rfl) : PE X (.Call (.Name x p) [.Starred e sp_] [] pos) (tMakeV X.K C sp E te) := by
  refine ⟨fun pins s σ H Q I h => ?_⟩
  refine wpAny_Call_Name_kw (ld_glob I hg hm ?_ hd)
  refine PySem.W.callWith_S (h₀ := X.base) I.ok.mod.kin M.kp (thn (he.run pins s σ H _ I h) fun v s1 ⟨y, H1, I1, ry, a, xs, ey, hxs, q⟩ => ?_) hst
  subst ey
  obtain rfl : v = Value.ref a := ry
  exact StX.star_any I1 hxs fun us s2 I2 rv => ⟨I2.kIn, StX.run_makeR M F hr hx I2 rv q⟩
end
/-! ### a staticmethod, called by its class -/
structure SMet (K : PySem.W.Frag) (C : Addr) (mc : Value) (m : Str) (p g : Addr) : Prop where
  at_ : PySem.W.findCls K (.ref C) mc m = some (.get (.builtin "staticmethod.__get__") (.ref p) .none (.ref C))
  rc : ∃ rest, PySem.W.recIn K p "staticmethod" = some (.ref g :: rest)
  kp : PySem.W.keepIn K (.ref g) = true
/-- e.m(..), e the class at C -/
def tSMeth (C : Addr) (sp : Sp) (E : L2.St → XK) (ta : TE) (t : TA) : TE := fun σ H Q => ta σ H fun x H1 => x = .ref C ∧ t σ H1 fun vs H2 => sp vs H2 Q (E σ)
section
variable {X : Cx} {CX : CXT} {k : Nat} {C p g : Addr} {mc : Value} {fd : FuncData} {ps : List Str} {sp : Sp} {E : L2.St → XK} {o e : Expr} {es : List Expr} {m : Str} {pos apos : Pos} {ta : TE} {t : TA} {pl : Sem Bool}
theorem pe_smeth (he : PE X o ta) (r : ClX.CRead X.K C mc) (c : SMet X.K C mc m p g) (F : FnOk X.prog X.w X.K X.mg X.base CX k g fd ps sp) (bi : Binds X.K fd ps []) (hr : Room k X.A) (hx : ∀ σ, PassesAt CX X σ (E σ)) (ha : PA X (e :: es) t)
    (hst : starEach (e :: es) X.env = (false, eval e X.env) :: starEach es X.env := by rfl) (hpl : (backTo pos (starEach es X.env)).any (·.1) = false := by rfl)
    (ht : eval (.Call (.Attribute o m apos) (e :: es) [] pos) X.env = (do
      let ov ← eval o X.env
      standAt apos.atName
      let (f, first) ← holding [ov] (getMethod ov m pl)
      callWith pos f first (backTo pos (starEach (e :: es) X.env)) (backToKw pos (keywordEach [] X.env))) := by rfl) :
    PE X (.Call (.Attribute o m apos) (e :: es) [] pos) (tSMeth C sp E ta t) := by
  refine ⟨fun pins s σ H Q I h => ?_⟩
  refine PySem.W.methodCall_KW (pl := pl) (thn (he.run pins s σ H _ I h) fun u s1 ⟨x, H1, I1, rx, ex, q⟩ => ?_) ht
  subst ex
  obtain rfl : u = Value.ref C := rx
  obtain ⟨rest, hp⟩ := c.rc
  refine PySem.W.method_cls I1.kIn r.ga ?_
  refine PySem.W.cls_bind I1.kIn r.rd c.at_ ?_
  refine wpAny_call (PySem.W.sm_get (s := { s1 with toks := s1.toks + 1 }) I1.kIn hp ?_)
  refine PySem.W.handed_on rfl ?_
  have I2 := I1.tok (s1.toks + 1)
  refine PySem.W.callWith_K (h₀ := X.base) I2.ok.mod.kin c.kp (thn (ha.run pos pins _ σ H1 _ I2 q) fun us s3 ⟨vs, H2, I3, rv, q2⟩ => ⟨I3.kIn, ?_⟩) hst hpl
  exact run_at F hr I3.env0 bi (hx σ) I3 rv q2
end
end XX

set_option maxRecDepth 100000
set_option maxHeartbeats 4000000
namespace XX
open PySem PySem.Spec PyProof.Rows L2
/-! ### an instance made by a positional promise, where the call may raise at the slots -/
section
variable {X : Cx} {CX : CXT} {k : Nat} {f C : Addr} {sp : Sp} {x : Str} {e : Expr} {es : List Expr} {te : TE} {t : TA} {p sp_ pos : Pos}
theorem run_makeRS {J : L2.St} {hp : Hp} {sh : Shared} {pn : List (Addr × Obj)} {D : XK} {R : VK} {ys : List V} {ws : List Value} (M : Mk X.K C f) (F : FnR X.prog X.w X.K X.mg X.base CX k f sp) (room : Room (k + 1) X.A) (ps : PassesAt CX X J D) (I : Inv X pn J hp sh) (rl : Vals ys ws)
    (q : ∀ z dz, hp z = none → hp dz = none → dz ≠ z → sp (V.ref z :: ys) (upd (upd hp dz (.own z)) z (.ins C dz [])) (fun v h2 => v = .non ∧ R (.ref z) h2) D) :
    wpAny (model X.prog X.w) X.A (call (.ref C) ws) (EP X pn J R) X.xe sh := by
  have fr : ∀ {b : Nat}, sh.heap.objs.size ≤ b → hp b = none := fun hle => I.hok.fresh hle
  have run := F _ X.stack _ _ (Value.ref (sh.heap.objs.size + 1) :: ws) _ _ D (room.make C ws []) ((Inv.made (C := C) I).env0.make C ws []) (Paired.cons (F := RelV) (show RelV (.ref (sh.heap.objs.size + 1)) (Value.ref (sh.heap.objs.size + 1)) from rfl) rl) (q _ _ (fr (Nat.le_succ _)) (fr (Nat.le_refl _)) (Nat.ne_of_lt (Nat.lt_succ_self _)))
  refine wpAny_call (make_map (f := f) I.kIn M.makes M.init (beq_iff_eq.mp M.fn) (codeAny_mono run fun rr s' z => ?_))
  match rr, z with
  | .error er, z => exact ps pn _ _ er s' (Inv.made (C := C) I) z
  | .ok (.ret u), z =>
    obtain ⟨v, h2, I3, rv, ev, q3⟩ := (Inv.made (C := C) I).after z
    subst ev
    exact ⟨rv, ⟨.ref (sh.heap.objs.size + 1), h2, I3, rfl, q3⟩⟩
  | .ok .next, z => exact False.elim z
  | .ok .brk, z => exact False.elim z
  | .ok .cont, z => exact False.elim z
def tMakeVS (K : PySem.W.Frag) (C : Addr) (sp : Sp) (D : L2.St → XK) (te : TE) : TE := fun σ H Q => te σ H fun y H1 => ∃ a xs, y = V.ref a ∧ (SqT K H1 a xs ∨ SqL K H1 a xs) ∧ ∀ z dx, H1 z = none → H1 dx = none → dx ≠ z →
  sp (V.ref z :: xs) (upd (upd H1 dx (.own z)) z (.ins C dx [])) (fun v H2 => v = .non ∧ Q (.ref z) H2) (D σ)
theorem pe_makeVS {D : L2.St → XK} (M : Mk X.K C f) (F : FnR X.prog X.w X.K X.mg X.base CX k f sp) (room : Room (k + 1) X.A) (ps : ∀ σ, PassesAt CX X σ (D σ)) (hg : Gl X x) (hm : X.mg x = some (.ref C)) (he : PE X e te) (hd : (x == ("__debug__" : Str)) = false := by decide)
    (hst : starEach [.Starred e sp_] X.env = [(true, eval e X.env)] := by rfl) : PE X (.Call (.Name x p) [.Starred e sp_] [] pos) (tMakeVS X.K C sp D te) :=
  ⟨fun pn sh J hp R I q => wpAny_Call_Name_kw (ld_glob I hg hm (PySem.W.callWith_S (h₀ := X.base) I.ok.mod.kin M.kp (thn (he.run pn sh J hp _ I q) fun v s1 ⟨y, h1, I1, ry, a, xs, ey, hxs, q⟩ => by
    subst ey
    cases (show v = Value.ref a from ry)
    exact StX.star_any I1 hxs fun us s2 I2 rv => ⟨I2.kIn, run_makeRS M F room (ps J) I2 rv q⟩) hst) hd)⟩
def tMakeRS (C : Addr) (sp : Sp) (D : L2.St → XK) (t : TA) : TE := fun σ H Q => t σ H fun vs H1 => ∀ z dx, H1 z = none → H1 dx = none → dx ≠ z →
  sp (V.ref z :: vs) (upd (upd H1 dx (.own z)) z (.ins C dx [])) (fun v H2 => v = .non ∧ Q (.ref z) H2) (D σ)
theorem pe_makeRS {D : L2.St → XK} (M : Mk X.K C f) (F : FnR X.prog X.w X.K X.mg X.base CX k f sp) (room : Room (k + 1) X.A) (ps : ∀ σ, PassesAt CX X σ (D σ)) (hg : Gl X x) (hm : X.mg x = some (.ref C)) (ha : PA X (e :: es) t) (hd : (x == ("__debug__" : Str)) = false := by decide)
    (hst : starEach (e :: es) X.env = (false, eval e X.env) :: starEach es X.env := by rfl) (hpl : (backTo pos (starEach es X.env)).any (·.1) = false := by rfl) : PE X (.Call (.Name x p) (e :: es) [] pos) (tMakeRS C sp D t) :=
  ⟨fun pn sh J hp R I q => wpAny_Call_Name_kw (ld_glob I hg hm (PySem.W.callWith_K (h₀ := X.base) I.ok.mod.kin M.kp (thn (ha.run pos pn sh J hp _ I q) fun us s1 ⟨vs, h1, I1, r, q⟩ => ⟨I1.kIn, run_makeRS M F room (ps J) I1 r q⟩) hst hpl) hd)⟩
end
end XX

set_option maxRecDepth 100000
set_option maxHeartbeats 4000000
namespace PySem.W
open PySem PySem.Calls PyProof.Rows
/-! ### own + and * of plain instances, on either side -/
section
variable {prog : Program} {w : World} {A : Around} {E : Value → Shared → Prop} {s : Shared} {K : Frag} {x C L f f0 : Addr} {h₀ : Heap} {m : Str → Option Value} {ox : Obj} {od : Option Obj} {T : String}
/-- the own class on the left, a built-in type on the right -/
theorem own_binT {op : Operator} {b : Value} {fo ro rc : Option Value} {Q : Value → Shared → Prop} (F : Fr h₀ L s.heap m) (X₀ : K.In h₀) (I : InstAt s.heap x ox C od) (hb : Looks (model prog w) s.heap (typeOf b) (.type T)) (hc : selfFirst K C = true)
    (hs : findIn K (.ref C) (PySem.dunder op.info.2) = some (some (.ref f))) (hf : isFn K (.ref f) = true) (hr : findIn K (.ref C) (dunderR op.info.2) = some rc) (hp : rc = none ∨ ∃ g : Addr, rc = some (.ref g))
    (h1 : findIn K (.type T) (PySem.dunder op.info.2) = some fo) (h2 : findIn K (.type T) (dunderR op.info.2) = some ro) (hsub : subIn K (.type T) (.ref C) = some false)
    (h : wpAny (model prog w) A (call (.ref f) [.ref x, b]) (CmpBack Q) E s) : wpAny (model prog w) A (binaryOp op (.ref x) b) Q E s := by
  have X := X₀.keeps F.keep
  obtain ⟨cd, rest, hcd, hm⟩ := ksp_first hc
  rcases hi : op.info with ⟨sym, nm'⟩
  rw [hi] at hs hr h1 h2
  dsimp only at hs hr h1 h2
  have one := ksp_try X I hs hf h
  obtain ⟨hh, g, d, tt, os⟩ := s
  have L1 : Looks (model prog w) hh (typeOf (.ref x)) (.ref C) := I.type
  have L2 : Looks (model prog w) hh (typeOf b) (.type T) := hb
  have L3 : Looks (model prog w) hh (fillsNumberSlot (.ref C) nm') true := fills_K X hcd hm hs
  have L4 : Looks (model prog w) hh (fillsNumberSlot (.type T) nm') ((fo.isSome && !isSeqSlot fo) || (ro.isSome && !isSeqSlot ro)) := ksp_fillsT X h1 h2
  have L5 : Looks (model prog w) hh (isSubtype (.type T) (.ref C)) false := looks_subIn X hsub
  have L6 : Looks (model prog w) hh (numberSlotInPython (.ref C) nm') true := ksp_inPy X hs hr hp
  have L7 : Looks (model prog w) hh (numberSlotInPython (.type T) nm') false := Looks.of_pure rfl
  have L8 : Looks (model prog w) hh (typeLookup (.type T) (dunderR nm')) ro := looks_findIn X h2
  generalize ((fo.isSome && !isSeqSlot fo) || (ro.isSome && !isSeqSlot ro)) = right at L4
  have hne : (Value.ref C == Value.type T) = false := Bool.eq_false_iff.mpr fun q => by cases beq_iff_eq.mp q
  simp only [binaryOp, hi]
  refine wpAny_holding (wpAny_bind ?_)
  unfold binaryOp1
  refine wpAny_bind (L1.at (wpAny_bind (L2.at (wpAny_bind (L3.at ?_)))))
  simp only [hne, Bool.false_eq_true, if_false]
  cases right with
  | false =>
    ksp_lk
    refine wpAny_mono one (fun r s' hr' => ?_) fun _ _ e => e
    obtain ⟨v, rfl, hq⟩ := hr'
    ksp_lk
    exact hq
  | true =>
    ksp_lk
    refine wpAny_mono one (fun r s' hr' => ?_) fun _ _ e => e
    obtain ⟨v, rfl, hq⟩ := hr'
    ksp_lk
    exact hq
/-- a built-in type that fills no number slot on the left, the own class on the right -/
theorem own_binR {op : Operator} {a : Value} {fo ro : Option Value} {Q : Value → Shared → Prop} (F : Fr h₀ L s.heap m) (X₀ : K.In h₀) (I : InstAt s.heap x ox C od) (ha : Looks (model prog w) s.heap (typeOf a) (.type T)) (hc : selfFirst K C = true)
    (hs : findIn K (.ref C) (PySem.dunder op.info.2) = some (some (.ref f0))) (hr : findIn K (.ref C) (dunderR op.info.2) = some (some (.ref f))) (hf : isFn K (.ref f) = true)
    (h1 : findIn K (.type T) (PySem.dunder op.info.2) = some fo) (h2 : findIn K (.type T) (dunderR op.info.2) = some ro) (hno : ((fo.isSome && !isSeqSlot fo) || (ro.isSome && !isSeqSlot ro)) = false)
    (h : wpAny (model prog w) A (call (.ref f) [.ref x, a]) (CmpBack Q) E s) : wpAny (model prog w) A (binaryOp op a (.ref x)) Q E s := by
  have X := X₀.keeps F.keep
  obtain ⟨cd, rest, hcd, hm⟩ := ksp_first hc
  rcases hi : op.info with ⟨sym, nm'⟩
  rw [hi] at hs hr h1 h2
  dsimp only at hs hr h1 h2
  have one := ksp_try X I hr hf h
  obtain ⟨hh, g, d, tt, os⟩ := s
  have L1 : Looks (model prog w) hh (typeOf (.ref x)) (.ref C) := I.type
  have L2 : Looks (model prog w) hh (typeOf a) (.type T) := ha
  have L3 : Looks (model prog w) hh (fillsNumberSlot (.ref C) nm') true := fills_K X hcd hm hs
  have L4 : Looks (model prog w) hh (fillsNumberSlot (.type T) nm') ((fo.isSome && !isSeqSlot fo) || (ro.isSome && !isSeqSlot ro)) := ksp_fillsT X h1 h2
  rw [hno] at L4
  have hne : (Value.type T == Value.ref C) = false := Bool.eq_false_iff.mpr fun q => by cases beq_iff_eq.mp q
  simp only [binaryOp, hi]
  refine wpAny_holding (wpAny_bind ?_)
  unfold binaryOp1
  refine wpAny_bind (L2.at (wpAny_bind (L1.at (wpAny_bind (L4.at ?_)))))
  simp only [hne, Bool.false_eq_true, if_false]
  ksp_lk
  refine wpAny_mono one (fun r s' hr' => ?_) fun _ _ e => e
  obtain ⟨v, rfl, hq⟩ := hr'
  ksp_lk
  exact hq
end
end PySem.W

set_option maxRecDepth 100000
set_option maxHeartbeats 4000000
namespace XX
open PySem PySem.Spec PyProof.Rows L2
theorem rel_back {Q : Value → Shared → Prop} {z : V} {v : Value} {s : Shared} (r : RelV z v) (q : Q v s) : PySem.W.CmpBack Q v s := by
  cases z with
  | non => cases r; exact q
  | bl b => cases r; exact q
  | int i =>
    obtain ⟨t, rfl⟩ := r
    exact q
  | str x =>
    obtain ⟨t, rfl⟩ := r
    exact q
  | byt b =>
    obtain ⟨t, rfl⟩ := r
    exact q
  | flt b =>
    obtain ⟨t, rfl⟩ := r
    exact q
  | ref a => cases r; exact q
  | ty n => cases r; exact q
/-- what an own operator asks of its class -/
structure OpC (K : PySem.W.Frag) (C : Addr) (op : Operator) : Prop where
  first : PySem.W.selfFirst K C = true
  r : ∃ rc, PySem.W.findIn K (.ref C) (dunderR op.info.2) = some rc ∧ (rc = none ∨ ∃ g : Addr, rc = some (.ref g))
/-- .. of a built-in type beside it -/
structure OpT (K : PySem.W.Frag) (C : Addr) (op : Operator) (T : String) : Prop where
  l : ∃ fo ro, PySem.W.findIn K (.type T) (PySem.dunder op.info.2) = some fo ∧ PySem.W.findIn K (.type T) (dunderR op.info.2) = some ro
  sub : PySem.W.subIn K (.type T) (.ref C) = some false
/-- .. that fills no number slot -/
def OpN (K : PySem.W.Frag) (op : Operator) (T : String) : Prop := ∃ fo ro, PySem.W.findIn K (.type T) (PySem.dunder op.info.2) = some fo ∧ PySem.W.findIn K (.type T) (dunderR op.info.2) = some ro ∧ ((fo.isSome && !isSeqSlot fo) || (ro.isSome && !isSeqSlot ro)) = false
section
variable {X : Cx} {CX : CXT} {k : Nat} {C : Addr} {sp : Sp} {op : Operator}
/-- a op b, a an instance of C -/
def tOpI (K : PySem.W.Frag) (C : Addr) (op : Operator) (sp : Sp) (E : L2.St → XK) (ta tb : TE) : TE := fun σ H Q => ta σ H fun x H1 => tb σ H1 fun y H2 => ∃ a dx fs, x = .ref a ∧ H2 a = some (.ins C dx fs) ∧ ((∃ b dy gs, y = .ref b ∧ H2 b = some (.ins C dy gs)) ∨ ∃ T, TyX K H2 y (.type T) ∧ OpT K C op T) ∧ sp [x, y] H2 Q (E σ)
theorem pe_opI {E : L2.St → XK} {ta tb : TE} {a b : Expr} {pos : Pos} (M : MtC X.prog X.w X.K X.mg X.base CX k C (PySem.dunder op.info.2) ["self", "other"] sp) (O : OpC X.K C op) (hr : Room k X.A) (hx : ∀ σ, PassesAt CX X σ (E σ)) (ha : PE X a ta) (hb : PE X b tb) : PE X (.BinOp a op b pos) (tOpI X.K C op sp E ta tb) := by
  refine ⟨fun pins s σ H Q I h => ?_⟩
  refine wpAny_BinOp (binT ha hb I h fun v u s2 x y H2 I2 rx ry q => ?_)
  obtain ⟨a', dx, fs, rfl, ea, hy, q2⟩ := q
  obtain rfl : v = Value.ref a' := rx
  obtain ⟨f, fd, F, hm, bi⟩ := M.ex
  obtain ⟨mA, J, _⟩ := ins_get I2.hok ea
  obtain ⟨od, J, _⟩ := J.look
  obtain ⟨m, hF⟩ := I2.fr
  have run := wpAny_mono (run_at F hr I2.env0 bi (hx σ) I2 (us := [.ref a', u]) (vs := [.ref a', y]) (.cons rfl (.cons ry .nil)) q2) (fun w s' q => by
    obtain ⟨z, H', I', rz, q⟩ := q
    exact rel_back (Q := EP X pins σ Q) rz ⟨z, H', I', rz, q⟩) fun _ _ e => e
  rcases hy with ⟨b', dy, gs, rfl, eb⟩ | ⟨T, hT, OT⟩
  · cases ry
    obtain ⟨mB, JB, _⟩ := ins_get I2.hok eb
    obtain ⟨odB, JB, _⟩ := JB.look
    exact PySem.W.binop_K hF I2.ok.mod.kin J JB.type O.first hm.at_ hm.fn run
  · obtain ⟨Pk, Z, hP, _⟩ := kit_of I2 ry hT
    obtain ⟨rc, h1, h2⟩ := O.r
    obtain ⟨fo, ro, h3, h4⟩ := OT.l
    exact PySem.W.own_binT hF I2.ok.mod.kin J (Z.ty _ _ I2.kIn hP) O.first hm.at_ hm.fn h1 h2 h3 h4 OT.sub run
/-- a op b, b an instance of C, a of a built-in type without number slots -/
def tOpR (K : PySem.W.Frag) (C : Addr) (op : Operator) (sp : Sp) (E : L2.St → XK) (ta tb : TE) : TE := fun σ H Q => ta σ H fun x H1 => tb σ H1 fun y H2 => ∃ b dy gs, y = .ref b ∧ H2 b = some (.ins C dy gs) ∧ (∃ T, TyX K H2 x (.type T) ∧ OpN K op T) ∧ sp [y, x] H2 Q (E σ)
theorem pe_opR {E : L2.St → XK} {ta tb : TE} {a b : Expr} {pos : Pos} (M : MtC X.prog X.w X.K X.mg X.base CX k C (dunderR op.info.2) ["self", "other"] sp) (hs : ∃ f0 : Addr, PySem.W.findIn X.K (.ref C) (PySem.dunder op.info.2) = some (some (.ref f0))) (hc : PySem.W.selfFirst X.K C = true) (hr : Room k X.A) (hx : ∀ σ, PassesAt CX X σ (E σ)) (ha : PE X a ta) (hb : PE X b tb) : PE X (.BinOp a op b pos) (tOpR X.K C op sp E ta tb) := by
  refine ⟨fun pins s σ H Q I h => ?_⟩
  refine wpAny_BinOp (binT ha hb I h fun v u s2 x y H2 I2 rx ry q => ?_)
  obtain ⟨b', dx, fs, rfl, ea, ⟨T, hT, fo, ro, h3, h4, h5⟩, q2⟩ := q
  obtain rfl : u = Value.ref b' := ry
  obtain ⟨f, fd, F, hm, bi⟩ := M.ex
  obtain ⟨f0, hs⟩ := hs
  obtain ⟨mA, J, _⟩ := ins_get I2.hok ea
  obtain ⟨od, J, _⟩ := J.look
  obtain ⟨m, hF⟩ := I2.fr
  obtain ⟨Pk, Z, hP, _⟩ := kit_of I2 rx hT
  have run := wpAny_mono (run_at F hr I2.env0 bi (hx σ) I2 (us := [.ref b', v]) (vs := [.ref b', x]) (.cons rfl (.cons rx .nil)) q2) (fun w s' q => by
    obtain ⟨z, H', I', rz, q⟩ := q
    exact rel_back (Q := EP X pins σ Q) rz ⟨z, H', I', rz, q⟩) fun _ _ e => e
  exact PySem.W.own_binR hF I2.ok.mod.kin J (Z.ty _ _ I2.kIn hP) hc hs hm.at_ hm.fn h3 h4 h5 run
end
end XX

set_option maxRecDepth 100000
set_option maxHeartbeats 4000000
namespace PySem
open Sem (wp)
open Builtin
theorem int___mul___int_ins (a : Int) (t : Tok) (l C dx : Addr) :
    Meets (Builtin.«int.__mul__» ⟨[.int a t, .ref l], []⟩) (fun _ R s => s.heap.get? l = some (PySem.W.instObj C dx) ∧ R (.ok (.ret Value.notImplemented)) s) :=
  .of_wp fun prog w A R s h => by obtain ⟨hp, g, d, tk, os⟩ := s; obtain ⟨hl, h⟩ := h; unfold PySem.W.instObj at hl; wp_walk; exact ⟨_, rfl, h⟩
theorem int___mul___bool_ins (a : Bool) (l C dx : Addr) :
    Meets (Builtin.«int.__mul__» ⟨[.bool a, .ref l], []⟩) (fun _ R s => s.heap.get? l = some (PySem.W.instObj C dx) ∧ R (.ok (.ret Value.notImplemented)) s) :=
  .of_wp fun prog w A R s h => by obtain ⟨hp, g, d, tk, os⟩ := s; obtain ⟨hl, h⟩ := h; unfold PySem.W.instObj at hl; wp_walk; exact ⟨_, rfl, h⟩
end PySem
namespace PySem.W
open PySem PySem.Calls PyProof.Rows
section
variable {prog : Program} {w : World} {A : Around} {E : Value → Shared → Prop} {s : Shared} {K : Frag} {x C L f f0 : Addr} {h₀ : Heap} {m : Str → Option Value} {ox : Obj} {od : Option Obj} {T : String}
/-- a built-in type on the left, whose own slot declines; the own class on the right -/
theorem own_binD {op : Operator} {a : Value} {id : String} {Q : Value → Shared → Prop} (F : Fr h₀ L s.heap m) (X₀ : K.In h₀) (I : InstAt s.heap x ox C od) (ha : s.TypeIs a T) (hc : selfFirst K C = true)
    (hs : findIn K (.ref C) (PySem.dunder op.info.2) = some (some (.ref f0))) (hr : findIn K (.ref C) (dunderR op.info.2) = some (some (.ref f))) (hf : isFn K (.ref f) = true)
    (hfT : fillsNumberSlot (.type T) op.info.2 = pure true) (sl : Slot T (PySem.dunder op.info.2) id) (hsub : subIn K (.ref C) (.type T) = some false)
    (hd : ∀ R : Value → Shared → Prop, R .notImplemented s → wpAny (model prog w) A (call (.builtin id) [a, .ref x]) R E s)
    (h : wpAny (model prog w) A (call (.ref f) [.ref x, a]) (CmpBack Q) E s) : wpAny (model prog w) A (binaryOp op a (.ref x)) Q E s := by
  have X := X₀.keeps F.keep
  obtain ⟨cd, rest, hcd, hm⟩ := ksp_first hc
  have one := ksp_try X I hr hf h
  have dec : ∀ R : Option Value → Shared → Prop, R none s → wpAny (model prog w) A (tryMethod a (PySem.dunder op.info.2) (.ref x)) R E s := fun R q => wpAny_tryMethod_declines ha sl (hd _ ⟨rfl, q⟩)
  rcases hi : op.info with ⟨sym, nm'⟩
  rw [hi] at hs hr hfT sl one dec
  dsimp only at hs hr hfT sl one dec
  have hne : (Value.type T == Value.ref C) = false := Bool.eq_false_iff.mpr fun q => by cases beq_iff_eq.mp q
  simp only [binaryOp, hi]
  refine wpAny_holding (wpAny_bind ?_)
  unfold binaryOp1
  refine wpAny_bind (wpAny_typeOf ha (wpAny_bind (I.type.here (wpAny_bind (wpAny_of_eq hfT ?_)))))
  simp only [hne, Bool.false_eq_true, if_false]
  refine wpAny_bind ((fills_K X hcd hm hs).here ?_)
  simp only [Bool.and_self, if_true]
  refine wpAny_bind ((looks_subIn X hsub).here ?_)
  simp only [Bool.false_eq_true, if_false]
  rw [if_pos (show (true && !false) = true from rfl)]
  refine wpAny_bind (wpAny_of_eq (show numberSlotInPython (.type T) nm' = pure false from rfl) ?_)
  simp only [Bool.false_eq_true, if_false]
  refine wpAny_bind (dec _ ?_)
  simp only [Bool.not_false, Bool.and_self, if_true]
  refine wpAny_bind (wpAny_mono one (fun r s' hr' => ?_) fun _ _ e => e)
  obtain ⟨v, rfl, hq⟩ := hr'
  ksp_lk
  exact hq
end
end PySem.W
namespace XX
open PySem PySem.Spec PyProof.Rows L2
section
variable {X : Cx} {CX : CXT} {k : Nat} {C : Addr} {sp : Sp}
/-- n * b, b an instance of C, n an int or a bool -/
def tMulD (C : Addr) (sp : Sp) (E : L2.St → XK) (ta tb : TE) : TE := fun σ H Q => ta σ H fun x H1 => tb σ H1 fun y H2 => ∃ b dy gs, y = .ref b ∧ H2 b = some (.ins C dy gs) ∧ ((∃ i, x = .int i) ∨ ∃ t, x = .bl t) ∧ sp [y, x] H2 Q (E σ)
theorem pe_mulD {E : L2.St → XK} {ta tb : TE} {a b : Expr} {pos : Pos} (M : MtC X.prog X.w X.K X.mg X.base CX k C "__rmul__" ["self", "other"] sp) (hs : ∃ f0 : Addr, PySem.W.findIn X.K (.ref C) "__mul__" = some (some (.ref f0))) (hc : PySem.W.selfFirst X.K C = true)
    (hi : PySem.W.subIn X.K (.ref C) (.type "int") = some false) (hb : PySem.W.subIn X.K (.ref C) (.type "bool") = some false) (hr : Room k X.A) (hx : ∀ σ, PassesAt CX X σ (E σ)) (ha : PE X a ta) (hb' : PE X b tb) : PE X (.BinOp a .Mult b pos) (tMulD C sp E ta tb) := by
  refine ⟨fun pins s σ H Q I h => ?_⟩
  refine wpAny_BinOp (binT ha hb' I h fun v u s2 x y H2 I2 rx ry q => ?_)
  obtain ⟨b', dx, fs, rfl, ea, hT, q2⟩ := q
  obtain rfl : u = Value.ref b' := ry
  obtain ⟨f, fd, F, hm, bi⟩ := M.ex
  obtain ⟨f0, hs⟩ := hs
  obtain ⟨mA, J, _⟩ := ins_get I2.hok ea
  have ho := J.obj
  obtain ⟨od, J, _⟩ := J.look
  obtain ⟨m, hF⟩ := I2.fr
  have run := wpAny_mono (run_at F hr I2.env0 bi (hx σ) I2 (us := [.ref b', v]) (vs := [.ref b', x]) (.cons rfl (.cons rx .nil)) q2) (fun w s' q => by
    obtain ⟨z, H', I', rz, q⟩ := q
    exact rel_back (Q := EP X pins σ Q) rz ⟨z, H', I', rz, q⟩) fun _ _ e => e
  rcases hT with ⟨i, rfl⟩ | ⟨t, rfl⟩
  · obtain ⟨tk, rfl⟩ := rx
    exact PySem.W.own_binD (op := .Mult) (T := "int") hF I2.ok.mod.kin J (PySem.typeIs_int s2 i tk) hc hs hm.at_ hm.fn PySem.F.fills_int_mul PySem.F.slot_int_mul hi
      (fun R q => call_meets PySem.F.slot_int_mul (PySem.typeIs_int s2 i tk) PySem.F.entry_int_mul (PySem.F.args_int_mul_2 _ _) (int___mul___int_ins i tk b' C dx) ⟨ho, q⟩) run
  · cases rx
    exact PySem.W.own_binD (op := .Mult) (T := "bool") hF I2.ok.mod.kin J (PySem.typeIs_bool s2 t) hc hs hm.at_ hm.fn PySem.F.fills_bool_mul PySem.F.slot_bool_mul hb
      (fun R q => call_meets PySem.F.slot_bool_mul (PySem.typeIs_bool s2 t) PySem.F.entry_int_mul (PySem.F.args_int_mul_2 _ _) (int___mul___bool_ins t b' C dx) ⟨ho, q⟩) run
end
end XX

set_option maxRecDepth 100000
set_option maxHeartbeats 4000000
namespace YY
open PySem PySem.Spec PyProof.Rows L2 XX
local macro_rules | `(tactic| walk_at "wp") => `(tactic| simp only [tPar3, rIndex, tAug, rExt2, tSeq, tNext, tAsg, tPar, gName, tCB, tCons, tNil, tVar, tC, tOp, tUn, rI, rI0, rU, tLst, tTup, tFor_eq, iRng1, iRng2, iList, iTup, tRet, tRetN, tDrop, tIfS, tTest, tB, tAnd, tOr, tNot, tIf, tAndV, tOrV, tNotV, tCall, tBM, tBM0, rIxL, rIxT, rAppend, tLc_eq, gSub, rSetL, rEq, rNe, rMulS, rIxS, tRevT, gTup, gCons, gNil, wipe, tYes, LcEnd, tDisp, tPairs, tChain, tSl, tPart, tNoPart, rSlT, rSlL, rCatT, rCat, rRep, rIsD, V.ty.injEq, iZipB, tDNewK, tXf, wMA, wAs, rLenK, tLenSetS, rReprE, tVeI, tOst, tErr, tMkO, sFld, tFld, rIsE2, tMakeS, rListStr, tDNotIn, tDIn, tDGet, rSetD, gSub, iEnumA, rIxD, iStr, rIn, rEqI, rLenI, tIxI, rSetI, rSortedSet, rEqK, rEqV, tCallS, tDc_eq, tLc2_eq, tMeth, tMethX, tSMeth, tMakeV, tMakeVS, tMakeRS, WE, tOpI, tOpR, tMulD, rRepA, rReprI, rCatA, StX.tMakeR, StX.tStar, tLock, tLockE, iItems, iKeys,
  cxOf_K, cxOf_noxK, L2.start, List.map_cons, List.map_nil, List.length_cons, List.length_nil, Nat.reduceAdd, Nat.reduceSub, List.replicate_succ, List.replicate_zero, List.replicate, List.cons_append, List.nil_append, List.getElem?_cons_zero, List.getElem?_cons_succ, List.set_cons_zero, List.set_cons_succ, List.append_nil,
  Option.some.injEq, V.int.injEq, V.ref.injEq, V.bl.injEq, V.str.injEq, List.cons.injEq, and_true, true_and, exists_eq_left', exists_eq_left, exists_and_left, exists_and_right, exists_const, bool_ite_true, bool_ite_false, dec_ite, ndec_ite, reduceCtorEq, false_or, or_false, false_and, and_false, decide_eq_true_eq, and_assoc, reduceIte, ite_true, ite_false, Int.zero_add])

/-! ### making; of -/
abbrev sOf : Stmt := inClass (topS 13) 1
abbrev sEqD : Stmt := inClass (topS 13) 2
abbrev sLenD : Stmt := inClass (topS 13) 3
abbrev sReprD : Stmt := inClass (topS 13) 4
abbrev sGetD : Stmt := inClass (topS 13) 5
abbrev sAddD : Stmt := inClass (topS 13) 7
abbrev sRaddD : Stmt := inClass (topS 13) 8
abbrev sMulD : Stmt := inClass (topS 13) 9
abbrev sRmulD : Stmt := inClass (topS 13) 10
def raisesD (K : PySem.W.Frag) (cls : Addr) (d : PyData) (H : Hp) (E : XK) : Prop := ∀ G e v, Same H G → DpE K G v d → G e = none → E (.ref cls) (some e) (upd G e (.xd [("value", v)]))
theorem raisesD.same {K : PySem.W.Frag} {cls : Addr} {d : PyData} {H G : Hp} {E : XK} (e : Same H G) (h : raisesD K cls d H E) : raisesD K cls d G E := fun F x v s => h F x v (e.trans s)
theorem raisesD.toV {K : PySem.W.Frag} {cls : Addr} {d : PyData} {v : V} {H : Hp} {E : XK} (h : raisesD K cls d H E) (hv : DpE K H v d) : raisesV cls v H E := fun G e s n => h G e v s (dpE_same s hv) n
def dataQ (K : PySem.W.Frag) (C : Addr) (ns : List Int) (H : Hp) (Q : VK) : Prop := ∀ G x, Same H G → DatAt K C G x ns → Q (.ref x) G
theorem dataQ.same {K : PySem.W.Frag} {C : Addr} {ns : List Int} {H G : Hp} {Q : VK} (e : Same H G) (h : dataQ K C ns H Q) : dataQ K C ns G Q := fun F x s => h F x (e.trans s)
theorem datAt_same {K : PySem.W.Frag} {C x : Addr} {ns : List Int} {H G : Hp} (e : Same H G) (h : DatAt K C H x ns) : DatAt K C G x ns := by
  obtain ⟨dx, t, h1, h2⟩ := h
  exact ⟨dx, t, e _ _ h1, Same.sqT e h2⟩
def spDR (K : PySem.W.Frag) (C cB : Addr) : Sp := fun vs H Q E => ∃ ws rest, vs = ws ++ rest ∧ ws.length = ["self"].length ∧ rest.length ≤ sizeLine ∧ ∀ p, H p = none → spDI K C cB (ws ++ [V.ref p]) (upd H p (.tup rest)) Q E
theorem mk_run {K : PySem.W.Frag} {C cB : Addr} {H : Hp} {Q : VK} {E : XK} {vs : List V} {ds : List PyData} (hd : DpAll K H vs ds) (hl : vs.length ≤ 900) (k0 : valsB ds = false → raisesD K cB (.tuple ds) H E) (k1 : valsB ds = true → dataQ K C (trimZ (ds.map intOf)) H Q) :
    ∀ x dx, H x = none → H dx = none → dx ≠ x → spDR K C cB (.ref x :: vs) (upd (upd H dx (.own x)) x (.ins C dx [])) (fun v H2 => v = .non ∧ Q (.ref x) H2) E := by
  intro x dx hx hdx hne
  have s1 : Same H (upd H dx (.own x)) := same_new hdx
  have hx1 : (upd H dx (.own x)) x = none := by rw [upd_ne hne.symm]; exact hx
  have s2 : Same H (upd (upd H dx (.own x)) x (.ins C dx [])) := s1.trans (same_new hx1)
  refine ⟨[.ref x], vs, rfl, rfl, by rw [sizeLine_eq]; omega, fun p hp => ?_⟩
  have hpx : x ≠ p := fun e => by
    subst e
    rw [upd_same] at hp
    cases hp
  have s3 := s2.trans (same_new (o := .tup vs) hp)
  refine ⟨x, dx, p, vs, ds, rfl, by rw [upd_ne hpx, upd_same], SqT.of upd_same, dps_same s3 _ _ hd, hl, fun hv G e s n => ?_, fun hv t G ex hG ht => ⟨rfl, ?_⟩⟩
  · exact k0 hv G e _ (s3.trans s) (.inl (.tup (Same.sqT s (SqT.of upd_same)) (dps_same (s3.trans s) _ _ hd))) n
  · refine k1 hv G x (fun b o hb => ex b o (fun e => ?_) (s3 _ _ hb)) ⟨dx, t, hG, ht⟩
    rw [e, hx] at hb
    cases hb
section
variable {P : Program} {w : World} {K : PySem.W.Frag} {mg : Str → Option Value} {base : Heap}
/-- Data is made by an FnR -/
structure DatM (P : Program) (w : World) (K : PySem.W.Frag) (mg : Str → Option Value) (base : Heap) (C cB : Addr) : Prop where
  dc : DatC K C
  gD : mg "Data" = some (.ref C)
  make : ∃ fD, Mk K C fD ∧ FnR P w K mg base (L2.CX P w) 4 fD (spDR K C cB)
theorem fn_DI {C fI fD : Addr} {fdI : FuncData} {cB : Addr} {doc pm cdv ct oc dV kV : Value} {an od : Option Addr} {osl : Array (Option Value)} (dc : DatC K C) (EB : ErrC K mg "BadData" cB fI)
    (cI : FnOk P w K mg base CX0 1 fI fdI ["self", "value"] (spErr K)) (hbI : Binds K fdI ["self", "value"] []) (cA : FnC P w K mg base CX0 3 "are_values" ["values"] (spAreV K)) (cZ : FnC P w K mg base CX0 1 "without_zeros" ["values"] (spWoZ K))
    (lk : K.lookup fD = some ⟨oc, od, .func (PySem.W.fnOf "__init__" "Data.__init__" (defArgs sDInit) (defBody sDInit) (defScope sDInit) dV kV doc pm an cdv ct), osl⟩) (hcd : PySem.W.codeIn K cdv "Data.__init__" = true)
    (hb : ∀ us rest : List Value, us.length = ["self"].length → bindArgs (PySem.W.fnOf "__init__" "Data.__init__" (defArgs sDInit) (defBody sDInit) (defScope sDInit) dV kV doc pm an cdv ct) ⟨us ++ rest, []⟩ = (newTuple rest >>= fun t => pure ((["self"] : List Str).zip us ++ [(("values" : Str), t)]))) :
    FnR P w K mg base (L2.CX P w) 4 fD (spDR K C cB) := by
  refine StX.fn_star (k := 3) (ps := ["self"]) (pv := "values") lk hcd scDI StX.cxUp hb fun A outer s H vs Q E hr h => ?_
  exact b_DI dc EB cI hbI cA cZ hr h
/-- Data.of -/
def spOf (K : PySem.W.Frag) (C cB : Addr) : Sp := fun vs H Q E => ∃ v d, vs = [v] ∧ DpE K H v d ∧ (itemsOf d = none → raisesD K cB d H E) ∧ ∀ ds, itemsOf d = some ds → ds.length ≤ 900 ∧ (valsB ds = false → raisesD K cB (.tuple ds) H E) ∧ (valsB ds = true → dataQ K C (trimZ (ds.map intOf)) H Q)
theorem scOf : FnScope ["values"] ["values"] (defScope sOf) := ⟨rfl, rfl, rfl, by decide +kernel, rfl, by decide +kernel, by decide +kernel⟩
theorem c_of {C fI g : Addr} {gd : FuncData} {fdI : FuncData} {cB : Addr} (D : L2.Fun K "of" "Data.of" sOf g gd) (T : Bl2 mg) (M : DatM P w K mg base C cB) (EB : ErrC K mg "BadData" cB fI)
    (cI : FnOk P w K mg base CX0 1 fI fdI ["self", "value"] (spErr K)) (hbI : Binds K fdI ["self", "value"] []) : FnOk P w K mg base (L2.CX P w) 6 g gd ["values"] (spOf K C cB) := by
  refine D.okX scOf (fun vs H Q E h => ?_) (fun cdv A outer s H vs Q E hr h => ?_)
  · obtain ⟨v, d, rfl, _⟩ := h
    rfl
  · obtain ⟨v, d, rfl, hd, kerr, k⟩ := h
    obtain ⟨fD, mk, FD⟩ := M.make
    have sc := scOf
    have hr2 : Room 2 _ := hr.mono (by decide)
    refine ⟨_, (pss_cut (ps_if (pt_not (pt_val (pe_callB (call_isE2 ty_list ty_tuple) (by rfl) T.n_isinstance (by decide +kernel) (pa_cons (pv 0) (pa_cons (pe_tup (pa_cons (pe_ty "list" (by rfl) T.n_list) (pa_cons (pe_ty "tuple" (by rfl) T.n_tuple) pa_nil))) pa_nil))))) (pss_one (ps_err EB cI hbI hr2 rfl (takes_of rfl rfl rfl rfl) (pv 0) rfl)) pss_nil)
      (pss_one (ps_ret (pe_makeVS (D := WE (fun cls d _ H => E cls d H)) mk FD hr (fun σ => passAt (takes_of rfl rfl rfl rfl) σ) rfl M.gD (pv 0))))), ?_⟩
    refine ⟨fun τ G => τ = [some v] ∧ Same H G ∧ (itemsOf d).isSome = true, ?_, ?_⟩
    · walk_at "wp"
      refine ⟨by decide, fun p np => ⟨upd_same, d, dpE_same (same_new np) hd, ?_⟩⟩
      rw [isTy_seq]
      have s1 := same_new (o := .tup [V.ty "list", V.ty "tuple"]) np
      cases hi : (itemsOf d).isSome with
      | false =>
        rw [if_pos (by rfl)]
        exact err_of2 EB.oex EB.no fun d' hd' => kerr (by simpa using hi) _ d' v s1 (dpE_same s1 hd) hd'
      | true =>
        rw [if_neg (show ¬ (!true) = true from Bool.false_ne_true)]
        exact ⟨s1, rfl⟩
    rintro τ G ⟨rfl, g, hi⟩
    obtain ⟨ds, hds⟩ := Option.isSome_iff_exists.mp hi
    obtain ⟨a, xs, rfl, hq, hda⟩ := seqOf hds hd
    obtain ⟨hl, k0, k1⟩ := k ds hds
    walk_at "wp"
    have hq2 := sqA_same g hq
    refine ⟨xs, (sqA_or hq2).symm, ?_⟩
    exact mk_run (dps_same g _ _ hda) (by rw [dpAll_len hda]; exact hl) (fun e => (k0 e).same g) fun e => (k1 e).same g
end
end YY

set_option maxRecDepth 100000
set_option maxHeartbeats 4000000
namespace YY
open PySem PySem.Spec PyProof.Rows L2 XX
local macro_rules | `(tactic| walk_at "wp") => `(tactic| simp only [tPar3, rIndex, tAug, rExt2, tSeq, tNext, tAsg, tPar, gName, tCB, tCons, tNil, tVar, tC, tOp, tUn, rI, rI0, rU, tLst, tTup, tFor_eq, iRng1, iRng2, iList, iTup, tRet, tRetN, tDrop, tIfS, tTest, tB, tAnd, tOr, tNot, tIf, tAndV, tOrV, tNotV, tCall, tBM, tBM0, rIxL, rIxT, rAppend, tLc_eq, gSub, rSetL, rEq, rNe, rMulS, rIxS, tRevT, gTup, gCons, gNil, wipe, tYes, LcEnd, tDisp, tPairs, tChain, tSl, tPart, tNoPart, rSlT, rSlL, rCatT, rCat, rRep, rIsD, V.ty.injEq, iZipB, tDNewK, tXf, wMA, wAs, rLenK, tLenSetS, rReprE, tVeI, tOst, tErr, tMkO, sFld, tFld, rIsE2, tMakeS, rListStr, tDNotIn, tDIn, tDGet, rSetD, gSub, iEnumA, rIxD, iStr, rIn, rEqI, rLenI, tIxI, rSetI, rSortedSet, rEqK, rEqV, tCallS, tDc_eq, tLc2_eq, tMeth, tMethX, tSMeth, tMakeV, tMakeVS, tMakeRS, WE, tOpI, tOpR, tMulD, rRepA, rReprI, rCatA, StX.tMakeR, StX.tStar, tLock, tLockE, iItems, iKeys,
  cxOf_K, cxOf_noxK, L2.start, List.map_cons, List.map_nil, List.length_cons, List.length_nil, Nat.reduceAdd, Nat.reduceSub, List.replicate_succ, List.replicate_zero, List.replicate, List.cons_append, List.nil_append, List.getElem?_cons_zero, List.getElem?_cons_succ, List.set_cons_zero, List.set_cons_succ, List.append_nil,
  Option.some.injEq, V.int.injEq, V.ref.injEq, V.bl.injEq, V.str.injEq, List.cons.injEq, and_true, true_and, exists_eq_left', exists_eq_left, exists_and_left, exists_and_right, exists_const, bool_ite_true, bool_ite_false, dec_ite, ndec_ite, reduceCtorEq, false_or, or_false, false_and, and_false, decide_eq_true_eq, and_assoc, reduceIte, ite_true, ite_false, Int.zero_add])

/-! ### ==, len, repr, [] of Data -/
theorem eqvAll_ints : ∀ ns ms : List Int, PyData.eqvAll (ns.map PyData.int) (ms.map PyData.int) = decide (ns = ms)
  | [], [] => rfl
  | [], _ :: _ => rfl
  | _ :: _, [] => rfl
  | n :: ns, m :: ms => by
    have e : PyData.eqvAll ((n :: ns).map PyData.int) ((m :: ms).map PyData.int) = (PyData.eqv (.int n) (.int m) && PyData.eqvAll (ns.map PyData.int) (ms.map PyData.int)) := rfl
    rw [e, eqvAll_ints ns ms]
    have e2 : PyData.eqv (.int n) (.int m) = decide (n = m) := by
      show (n == m) = _
      by_cases h : n = m
      · simp [h]
      · simp [h]
    rw [e2]
    by_cases h : n = m
    · simp [h]
    · simp [h]
theorem eqv_intsT (ns ms : List Int) : PyData.eqv (.tuple (ns.map PyData.int)) (.tuple (ms.map PyData.int)) = decide (ns = ms) := eqvAll_ints ns ms
theorem eqv_intsL (ns ms : List Int) : PyData.eqv (.list (ns.map PyData.int)) (.list (ms.map PyData.int)) = decide (ns = ms) := eqvAll_ints ns ms
theorem shaped_intsT (ns : List Int) : SeqAt.shaped (.tuple (ns.map PyData.int)) = true := shaped_ints ns
theorem dps_ints {K : PySem.W.Frag} {H : Hp} : ∀ ns : List Int, DpAll K H (ns.map V.int) (ns.map PyData.int)
  | [] => .nil
  | n :: ns => .cons (.int n) (dps_ints ns)
section
variable {P : Program} {w : World} {K : PySem.W.Frag} {mg : Str → Option Value} {base : Heap}
def spEqD (K : PySem.W.Frag) (C : Addr) : Sp := fun vs H Q _ => ∃ (x : Addr) (y : V) (ns : List Int), vs = [.ref x, y] ∧ DatAt K C H x ns ∧
  ((∃ (z : Addr) (ms : List Int), y = .ref z ∧ DatAt K C H z ms ∧ Q (.bl (decide (ns = ms))) H) ∨ (∃ (t : Addr) (xs : List V), y = .ref t ∧ SqT K H t xs ∧ Q (.bl false) H))
theorem scEqD : FnScope ["self", "other"] ["self", "other"] (defScope sEqD) := ⟨rfl, rfl, rfl, by decide +kernel, rfl, by decide +kernel, by decide +kernel⟩
theorem tyx_tup {K : PySem.W.Frag} {H : Hp} {a : Addr} {xs : List V} (h : SqT K H a xs) : TyX K H (.ref a) (.type "tuple") := by
  rcases h with (h | ⟨o, h⟩) | ⟨o, its, n, h, hc, _⟩
  · exact .base (.tup h)
  · exact .fTuple h
  · exact .kTuple h hc
theorem c_eqD {C : Addr} (D : DefM K C "__eq__" "Data.__eq__" sEqD ["self", "other"]) (T : Bl2 mg) (dc : DatC K C) (gD : mg "Data" = some (.ref C)) (ic : IsC K C) (nd : NoD K C) : MtC P w K mg base CX0 1 C "__eq__" ["self", "other"] (spEqD K C) := by
  refine D.ok scEqD (fun vs H Q E h => ?_) (fun f cdv A outer s H vs Q E hr h => ?_)
  · obtain ⟨x, y, g, rfl, _⟩ := h
    rfl
  · obtain ⟨x, y, ns, rfl, ⟨dx, t, hx, ht⟩, k⟩ := h
    have sc := scEqD
    refine ⟨_, (pss_one (ps_ret (pe_and (pe_callB call_isi (by rfl) T.n_isinstance (by decide +kernel) (pa_cons (pv 1) (pa_cons (pe_glob (v := .ref C) rfl gD rfl) pa_nil))) (pe_one (pe_cmpR (op_eqD hr.units) (pe_fld (pv 0) rfl) (pe_fld (pv 1) rfl) (nomark _)))))), ?_⟩
    walk_at "wp"
    rcases k with ⟨z, ms, rfl, ⟨dz, t2, hz, ht2⟩, k⟩ | ⟨t2, xs, rfl, h2, k⟩
    · refine ⟨_, _, _, _, true, rfl, .own C, .base (.ins hz dc.cls ic.at_ ic.sp ic.tk ic.mro), kit_self K C, true, rfl, ?_⟩
      rw [if_pos rfl]
      refine ⟨C, dx, _, hx, dc.cls, dc.n1, _, rfl, z, rfl, C, dz, _, hz, dc.cls, dc.n1, _, rfl, _, _, .tup ht (dps_ints ns), .tup ht2 (dps_ints ms), shaped_intsT ns, shaped_intsT ms, ?_⟩
      rw [eqv_intsT]
      exact k
    · refine ⟨_, _, _, _, false, rfl, .own C, tyx_tup h2, nd.tup, false, rfl, ?_⟩
      rw [if_neg Bool.false_ne_true]
      exact k
def spLenD (K : PySem.W.Frag) (C : Addr) : Sp := fun vs H Q _ => ∃ (x : Addr) (ns : List Int), vs = [.ref x] ∧ DatAt K C H x ns ∧ Q (.int (ns.length : Nat)) H
theorem scLenD : FnScope ["self"] ["self"] (defScope sLenD) := ⟨rfl, rfl, rfl, by decide +kernel, rfl, by decide +kernel, by decide +kernel⟩
theorem c_lenD {C : Addr} (D : DefM K C "__len__" "Data.__len__" sLenD ["self"]) (T : Bl2 mg) (dc : DatC K C) : MtC P w K mg base CX0 1 C "__len__" ["self"] (spLenD K C) := by
  refine D.ok scLenD (fun vs H Q E h => ?_) (fun f cdv A outer s H vs Q E hr h => ?_)
  · obtain ⟨x, g, rfl, _⟩ := h
    rfl
  · obtain ⟨x, ns, rfl, ⟨dx, t, hx, ht⟩, k⟩ := h
    have sc := scLenD
    refine ⟨_, (pss_one (ps_ret (pe_callB call_len_seq (by rfl) T.n_len (by decide +kernel) (pa_cons (pe_fld (pv 0) rfl) pa_nil)))), ?_⟩
    walk_at "wp"
    refine ⟨C, dx, _, hx, dc.cls, dc.n1, _, rfl, t, rfl, _, .inr ht, ?_⟩
    rw [List.length_map]
    exact k
def spGetD (K : PySem.W.Frag) (C cN : Addr) : Sp := fun vs H Q E => ∃ (x : Addr) (v : V) (d : PyData) (ns : List Int), vs = [.ref x, v] ∧ DatAt K C H x ns ∧ Dp K H v d ∧ (isWhole d = false → raisesD K cN d H E) ∧ ∀ i, d = .int i → (i < 0 → raisesD K cN d H E) ∧ (0 ≤ i → Q (.int (ns.getD i.toNat 0)) H)
theorem scGetD : FnScope ["self", "index"] ["self", "index"] (defScope sGetD) := ⟨rfl, rfl, rfl, by decide +kernel, rfl, by decide +kernel, by decide +kernel⟩
theorem whole_int {d : PyData} (h : isWhole d = true) : ∃ i, d = .int i := by
  cases d with
  | int i => exact ⟨i, rfl⟩
  | _ => cases h
theorem c_getD {C cN fI : Addr} {fdI : FuncData} (D : DefM K C "__getitem__" "Data.__getitem__" sGetD ["self", "index"]) (T : Bl2 mg) (dc : DatC K C) (EN : ErrC K mg "BadNumber" cN fI)
    (cI : FnOk P w K mg base CX0 1 fI fdI ["self", "value"] (spErr K)) (hbI : Binds K fdI ["self", "value"] []) (cW : FnC P w K mg base CX0 1 "is_whole" ["value"] (spIsWhole K)) : MtC P w K mg base (L2.CX P w) 3 C "__getitem__" ["self", "index"] (spGetD K C cN) := by
  refine D.okX scGetD (fun vs H Q E h => ?_) (fun f cdv A outer s H vs Q E hr h => ?_)
  · obtain ⟨x, v, d, ns, rfl, _⟩ := h
    rfl
  · obtain ⟨x, v, d, ns, rfl, ⟨dx, t, hx, ht⟩, hd, k0, k1⟩ := h
    have sc := scGetD
    have hr1 : Room 1 _ := hr.mono (by decide)
    refine ⟨_, (pss_cut (ps_if (PW.pt (pw_or (pt_not (pt_val (pe_c cW hr1 rfl (pa_cons (pv 1) pa_nil)))) (pw_or1 (pt_cmpR op_lt (pv 1) pe_int (nomark _))))) (pss_one (ps_err EN cI hbI hr rfl (takes_of rfl rfl rfl rfl) (pv 1) rfl)) pss_nil)
      (pss_one (ps_ret (pe_ifExp (pt_cmpR op_lt (pv 1) (pe_callB call_len_seq (by rfl) T.n_len (by decide +kernel) (pa_cons (pe_fld (pv 0) rfl) pa_nil)) (nomark _)) (pe_ix ix_tup (pe_fld (pv 0) rfl) (pv 1) (fun _ _ => rfl)) pe_int)))), ?_⟩
    refine ⟨fun τ G => τ = [some (.ref x), some v] ∧ G = H ∧ ∃ i : Nat, d = .int (i : Nat), ?_, ?_⟩
    · walk_at "wp"
      refine ⟨v, d, rfl, hd, _, rfl, ?_⟩
      cases hw : isWhole d with
      | false =>
        rw [if_pos (by rfl)]
        exact err_of2 EN.oex EN.no fun d' hd' => k0 hw _ d' v (Same.refl _) (.inl hd) hd'
      | true =>
        rw [if_neg (show ¬ (!true) = true from Bool.false_ne_true)]
        obtain ⟨i, rfl⟩ := whole_int hw
        obtain ⟨e1, e2⟩ := k1 i rfl
        cases hd with
        | int i =>
          refine ⟨i, rfl, ite2 (fun c => ?_) fun c => ?_⟩
          · exact err_of2 EN.oex EN.no fun d' hd' => e1 (by omega) _ d' _ (Same.refl _) (.inl (.int i)) hd'
          · exact ⟨rfl, i.toNat, by rw [Int.toNat_of_nonneg (by omega)]⟩
    rintro τ G ⟨rfl, rfl, i, rfl⟩
    obtain ⟨_, k⟩ := k1 _ rfl
    have k := k (by omega)
    cases hd with
    | int _ =>
      walk_at "wp"
      refine ⟨C, dx, _, hx, dc.cls, dc.n1, _, rfl, t, rfl, _, .inr ht, ite2 (fun c => ?_) fun c => ?_⟩
      · rw [List.length_map] at c
        have hi : i < ns.length := by omega
        have e1 : ns.getD i 0 = ns[i] := by rw [List.getD_eq_getElem?_getD, List.getElem?_eq_getElem hi]; rfl
        rw [Int.toNat_natCast, e1] at k
        exact ⟨C, dx, _, hx, dc.cls, dc.n1, _, rfl, t, rfl, _, ht, _, at_of rfl (by rw [List.getElem?_map, List.getElem?_eq_getElem hi]; rfl), k⟩
      · rw [List.length_map] at c
        have e1 : ns.getD i 0 = 0 := by rw [List.getD_eq_getElem?_getD, List.getElem?_eq_none (by omega)]; rfl
        rw [Int.toNat_natCast, e1] at k
        exact k
/-! ### repr -/
def reprZ (ns : List Int) : Str := (("Data(" : Str) ++ Txt.join ", " (ns.map fun n => ((toString n : String) : Str))) ++ ")"
def spReprD (K : PySem.W.Frag) (C : Addr) : Sp := fun vs H Q _ => ∃ (x : Addr) (ns : List Int), vs = [.ref x] ∧ DatAt K C H x ns ∧ ns.length ≤ 60 ∧ (∀ n ∈ ns, 0 ≤ n ∧ n ≤ 2) ∧ ∀ G, Same H G → Q (.str (reprZ ns)) G
theorem scReprD : FnScope ["self", "texts", "value"] ["self"] (defScope sReprD) := ⟨rfl, rfl, rfl, by decide +kernel, rfl, by decide +kernel, by decide +kernel⟩
theorem c_reprD {C : Addr} (D : DefM K C "__repr__" "Data.__repr__" sReprD ["self"]) (T : Bl2 mg) (n_str : mg "str" = none) (dc : DatC K C) : MtC P w K mg base CX0 1 C "__repr__" ["self"] (spReprD K C) := by
  refine D.ok scReprD (fun vs H Q E h => ?_) (fun f cdv A outer s H vs Q E hr h => ?_)
  · obtain ⟨x, g, rfl, _⟩ := h
    rfl
  · obtain ⟨x, ns, rfl, ⟨dx, t, hx, ht⟩, hl, hv, k⟩ := h
    have sc := scReprD
    refine ⟨_, (pss_cut (ps_setLc (i := 1) (own := [("value", 2)]) (g := gName 2) (tt := tYes) rfl sc.nd rfl rfl rfl (pi_tup (pe_fld (pv 0) rfl)) (blkOk_by (N := ["self", "texts", "value"]) (sc := defScope sReprD) (by decide +kernel)) (fun _ _ _ _ _ => (pg_name (i := 2) sc.nd rfl (Or.inl rfl))) (fun _ _ _ _ _ => pts_nil) (fun _ _ _ _ _ => (pe_callTy call_str_int (by rfl) n_str (by decide +kernel) (pa_cons (pv 2) pa_nil))))
      (pss_one (ps_ret (pe_joined (.cons pe_str (.cons (pe_fmt (pe_join pe_str (pv 1))) (.cons pe_str .nil))))))), ?_⟩
    refine ⟨fun τ G => ∃ u D2, τ = [some (.ref x), some (.ref D2), u] ∧ Same H G ∧ G D2 = some (.lst ((ns.map fun n => ((toString n : String) : Str)).map V.str)), ?_, ?_⟩
    · walk_at "wp"
      refine ⟨C, dx, _, hx, dc.cls, dc.n1, _, rfl, t, rfl, ⟨_, ht⟩, ?_⟩
      refine lcw_gen walk_tup (fun i => (ns[i]?).map fun n => V.str ((toString n : String) : Str)) (by rw [List.length_map]; omega) (fun H' e => Same.sqT e ht) ?_ ?_
      · rintro i z G1 G2 Nx Q' hi hG ⟨rfl, hz⟩ q _
        walk_at "wp"
        rw [List.getElem?_map] at hz
        cases hn : ns[i]? with
        | none =>
          rw [hn] at hz
          cases hz
        | some n =>
          rw [hn] at hz
          cases hz
          have hnm := hv n (List.mem_of_getElem? hn)
          refine ⟨n, rfl, ?_, q _ _ (by rw [hn]; rfl) (Same.refl _)⟩
          have : n = 0 ∨ n = 1 ∨ n = 2 := by omega
          rcases this with rfl | rfl | rfl <;> decide
      · rintro D G hG hD hL
        have e2 : (List.range (ns.map V.int).length).filterMap (fun i => (ns[i]?).map fun n => V.str ((toString n : String) : Str)) = (ns.map fun n => ((toString n : String) : Str)).map V.str := by
          rw [List.length_map, List.map_map]
          exact filterMap_get ns _
        rw [e2] at hL
        exact ⟨_, D, rfl, rfl, hG, hL⟩
    rintro τ G ⟨u, D2, rfl, g, hD⟩
    have hlen : ∀ n ∈ ns, ((toString n : String) : Str).length = 1 := fun n hn => by
      have := hv n hn
      have : n = 0 ∨ n = 1 ∨ n = 2 := by omega
      rcases this with rfl | rfl | rfl <;> decide +kernel
    have hsum : ((ns.map fun n => ((toString n : String) : Str)).map fun x => x.length).sum = ns.length := by
      clear hx ht hl k hv hD
      induction ns with
      | nil => rfl
      | cons n ns ih =>
        rw [List.map_cons, List.map_cons, List.sum_cons, ih fun m hm => hlen m (List.mem_cons_of_mem _ hm), hlen n (List.mem_cons_self ..), List.length_cons]
        omega
    have hjl : (Txt.join ", " (ns.map fun n => ((toString n : String) : Str))).length ≤ 1000 := by
      have z := StrLaws.join_length_le (", " : Str) (ns.map fun n => ((toString n : String) : Str))
      rw [hsum, List.length_map] at z
      have z2 : ((", " : Str)).length = 2 := by decide +kernel
      rw [z2] at z
      have e : Txt.join ", " (ns.map fun n => ((toString n : String) : Str)) = Str.join ", " (ns.map fun n => ((toString n : String) : Str)) := StrLaws.glued_eq_join ..
      rw [e]
      exact Nat.le_trans z (show ns.length + ns.length * 2 ≤ 1000 by omega)
    have z1 : ((", " : Str)).length = 2 := by decide +kernel
    have z2 : ((Str.empty ++ ("Data(" : Str)) : Str).length = 5 := by decide +kernel
    have z3 : ((")" : Str)).length = 1 := by decide +kernel
    simp only [tJs, tFmt, tM1]
    walk_at "wp"
    refine ⟨by rw [z2, sizeLine_eq]; decide, ⟨_, rfl⟩, _, .inl (SqL.of hD), ?_, by rw [sizeLine_eq]; omega, ?_, ?_, k G g⟩
    · rw [hsum, List.length_map, z1]
      omega
    · rw [Str.length_append, z2, sizeLine_eq]
      omega
    · rw [Str.length_append, Str.length_append, z2, z3, sizeLine_eq]
      omega
end
end YY

set_option maxRecDepth 100000
set_option maxHeartbeats 4000000
namespace YY
open PySem PySem.Spec PyProof.Rows L2 XX
local macro_rules | `(tactic| walk_at "wp") => `(tactic| simp only [tPar3, rIndex, tAug, rExt2, tSeq, tNext, tAsg, tPar, gName, tCB, tCons, tNil, tVar, tC, tOp, tUn, rI, rI0, rU, tLst, tTup, tFor_eq, iRng1, iRng2, iList, iTup, tRet, tRetN, tDrop, tIfS, tTest, tB, tAnd, tOr, tNot, tIf, tAndV, tOrV, tNotV, tCall, tBM, tBM0, rIxL, rIxT, rAppend, tLc_eq, gSub, rSetL, rEq, rNe, rMulS, rIxS, tRevT, gTup, gCons, gNil, wipe, tYes, LcEnd, tDisp, tPairs, tChain, tSl, tPart, tNoPart, rSlT, rSlL, rCatT, rCat, rRep, rIsD, V.ty.injEq, iZipB, tDNewK, tXf, wMA, wAs, rLenK, tLenSetS, rReprE, tVeI, tOst, tErr, tMkO, sFld, tFld, rIsE2, tMakeS, rListStr, tDNotIn, tDIn, tDGet, rSetD, gSub, iEnumA, rIxD, iStr, rIn, rEqI, rLenI, tIxI, rSetI, rSortedSet, rEqK, rEqV, tCallS, tDc_eq, tLc2_eq, tMeth, tMethX, tSMeth, tMakeV, tMakeVS, tMakeRS, WE, tOpI, tOpR, tMulD, rRepA, rReprI, rCatA, StX.tMakeR, StX.tStar, tLock, tLockE, iItems, iKeys,
  cxOf_K, cxOf_noxK, L2.start, List.map_cons, List.map_nil, List.length_cons, List.length_nil, Nat.reduceAdd, Nat.reduceSub, List.replicate_succ, List.replicate_zero, List.replicate, List.cons_append, List.nil_append, List.getElem?_cons_zero, List.getElem?_cons_succ, List.set_cons_zero, List.set_cons_succ, List.append_nil,
  Option.some.injEq, V.int.injEq, V.ref.injEq, V.bl.injEq, V.str.injEq, List.cons.injEq, and_true, true_and, exists_eq_left', exists_eq_left, exists_and_left, exists_and_right, exists_const, bool_ite_true, bool_ite_false, dec_ite, ndec_ite, reduceCtorEq, false_or, or_false, false_and, and_false, decide_eq_true_eq, and_assoc, reduceIte, ite_true, ite_false, Int.zero_add])

/-! ### +, * -/
def valI (ns : List Int) : Prop := ns.length ≤ 60 ∧ ∀ n ∈ ns, 0 ≤ n ∧ n ≤ 2
theorem valI_btw {ns : List Int} (h : ∀ n ∈ ns, 0 ≤ n ∧ n ≤ 2) : ((ns.map PyData.int).all fun d => btw d 0 2) = true := by
  rw [List.all_eq_true]
  intro d hd
  obtain ⟨n, hn, rfl⟩ := List.mem_map.mp hd
  have := h n hn
  show (decide (0 ≤ n) && decide (n ≤ 2)) = true
  rw [decide_eq_true this.1, decide_eq_true this.2]
  rfl
theorem valsB_ints {ns : List Int} (hl : ns.length ≤ 60) (h : ∀ n ∈ ns, 0 ≤ n ∧ n ≤ 2) : valsB (ns.map PyData.int) = true := by
  unfold valsB
  rw [valI_btw h, List.length_map, decide_eq_true hl]
  rfl
theorem map_intOf (ns : List Int) : (ns.map PyData.int).map intOf = ns := by
  rw [List.map_map]
  exact List.map_id'' (fun _ => rfl) _
theorem trimZ_mem {ns : List Int} {n : Int} (h : n ∈ trimZ ns) : n ∈ ns := by
  unfold trimZ at h
  rw [List.mem_reverse] at h
  exact List.mem_reverse.mp ((List.dropWhile_sublist _).subset h)
theorem trimZ_len (ns : List Int) : (trimZ ns).length ≤ ns.length := by
  unfold trimZ
  rw [List.length_reverse]
  exact Nat.le_trans (List.dropWhile_sublist _).length_le (by rw [List.length_reverse]; exact Nat.le_refl _)
theorem vals_range {ds : List PyData} (h : valsB ds = true) : (ds.map intOf).length ≤ 60 ∧ ∀ n ∈ ds.map intOf, 0 ≤ n ∧ n ≤ 2 := by
  unfold valsB at h
  rw [Bool.and_eq_true, decide_eq_true_eq, List.all_eq_true] at h
  refine ⟨by rw [List.length_map]; exact h.1, fun n hn => ?_⟩
  obtain ⟨d, hd, rfl⟩ := List.mem_map.mp hn
  have z := h.2 d hd
  cases d with
  | int i =>
    have z : (decide (0 ≤ i) && decide (i ≤ 2)) = true := z
    rw [Bool.and_eq_true, decide_eq_true_eq, decide_eq_true_eq] at z
    exact z
  | _ => cases z
theorem valsOf_range {d : PyData} {ms : List Int} (h : valsOf d = some ms) : valI ms := by
  unfold valsOf at h
  cases hi : itemsOf d with
  | none =>
    rw [hi] at h
    cases h
  | some ds =>
    rw [hi] at h
    by_cases e : valsB ds = true
    · obtain rfl := Option.some.inj ((if_pos e).symm.trans h)
      exact vals_range e
    · exact absurd ((if_neg e).symm.trans h) (by simp)
/-- the values of one, then those of data -/
def addOf (ns : List Int) (d : PyData) : Option (List Int) := match valsOf d with
  | some ms => if (ns ++ ms).length ≤ 60 then some (trimZ (ns ++ ms)) else none
  | none => none
def raddOf (ns : List Int) (d : PyData) : Option (List Int) := match valsOf d with
  | some ms => if (trimZ ms ++ ns).length ≤ 60 then some (trimZ (trimZ ms ++ ns)) else none
  | none => none
def lenOk (d : PyData) : Prop := ∀ ds, itemsOf d = some ds → ds.length ≤ 900
section
variable {P : Program} {w : World} {K : PySem.W.Frag} {mg : Str → Option Value} {base : Heap}
def spAddD (K : PySem.W.Frag) (C cB : Addr) : Sp := fun vs H Q E => ∃ (x : Addr) (ns : List Int) (v : V), vs = [.ref x, v] ∧ DatAt K C H x ns ∧ valI ns ∧
  ((∃ y ms, v = .ref y ∧ DatAt K C H y ms ∧ valI ms ∧ ns.length + ms.length ≤ 60 ∧ dataQ K C (trimZ (ns ++ ms)) H Q) ∨
   ∃ d, DpE K H v d ∧ lenOk d ∧ (addOf ns d = none → raisesD K cB d H E) ∧ ∀ ms, addOf ns d = some ms → dataQ K C ms H Q)
theorem scAddD : FnScope ["self", "other", "values"] ["self", "other"] (defScope sAddD) := ⟨rfl, rfl, rfl, by decide +kernel, rfl, by decide +kernel, by decide +kernel⟩
theorem c_addD {C cB fI : Addr} {fdI : FuncData} {tk : Tok} (D : DefM K C "__add__" "Data.__add__" sAddD ["self", "other"]) (T : Bl2 mg) (n_len : mg "len" = none) (M : DatM P w K mg base C cB) (EB : ErrC K mg "BadData" cB fI) (gM : mg "MOST_VALUES" = some (.int 60 tk))
    (cI : FnOk P w K mg base CX0 1 fI fdI ["self", "value"] (spErr K)) (hbI : Binds K fdI ["self", "value"] []) (cV : FnC P w K mg base (L2.CX P w) 4 "_values_of" ["other"] (spValOf K C cB)) : MtC P w K mg base (L2.CX P w) 6 C "__add__" ["self", "other"] (spAddD K C cB) := by
  refine D.okX scAddD (fun vs H Q E h => ?_) (fun f cdv A outer s H vs Q E hr h => ?_)
  · obtain ⟨x, ns, v, rfl, _⟩ := h
    rfl
  · obtain ⟨x, ns, v, rfl, ⟨dx, t, hx, ht⟩, hvn, h⟩ := h
    obtain ⟨fD, mk, FD⟩ := M.make
    have dc := M.dc
    have sc := scAddD
    have hr2 : Room 2 _ := hr.mono (by decide)
    have hr4 : Room 4 _ := hr.mono (by decide)
    refine ⟨_, (pss_cut (ps_set (i := 2) sc.nd rfl (Or.inl rfl) (pe_tup (StX.pa_star (pe_fld (pv 0) rfl) (StX.pa_star (pe_cX (E := WE (fun cls d _ H => E cls d H)) cV hr4 (fun σ => passAt (takes_of rfl rfl rfl rfl) σ) rfl (pa_cons (pv 1) pa_nil)) pa_nil))))
      (pss_cut (ps_if (pt_cmpR op_gt (pe_callB call_len_seq (by rfl) T.n_len (by decide +kernel) (pa_cons (pv 2) pa_nil)) (pe_glob (v := .int 60) rfl gM ⟨_, rfl⟩) (nomark _)) (pss_one (ps_err EB cI hbI hr2 rfl (takes_of rfl rfl rfl rfl) (pv 1) rfl)) pss_nil)
      (pss_one (ps_ret (pe_makeVS (D := WE (fun cls d _ H => E cls d H)) mk FD hr (fun σ => passAt (takes_of rfl rfl rfl rfl) σ) rfl M.gD (pv 2)))))), ?_⟩
    refine ⟨fun τ G => ∃ p ms, τ = [some (.ref x), some v, some (.ref p)] ∧ Same H G ∧ SqT K G p ((ns ++ ms).map V.int) ∧ valI ms ∧ ((ns ++ ms).length ≤ 60 → dataQ K C (trimZ (ns ++ ms)) H Q) ∧ (¬ (ns ++ ms).length ≤ 60 → raisesV cB v H E), ?_, ?_⟩
    · walk_at "wp"
      refine ⟨C, dx, _, hx, dc.cls, dc.n1, _, rfl, t, rfl, _, .inl ht, v, rfl, ?_⟩
      rcases h with ⟨y, ms, rfl, hy, hvm, hl, q⟩ | ⟨d, hd, hlen, kerr, k⟩
      · refine .inl ⟨y, ms, rfl, hy, fun t2 ht2 => ⟨t2, rfl, _, .inl ht2, by rw [List.length_append, List.length_map, List.length_map, sizeLine_eq]; omega, fun p np => ⟨same_new np, ms, SqT.of (by rw [upd_same, List.map_append]), hvm, fun _ => q, fun z => ?_⟩⟩⟩
        rw [List.length_append] at z
        exact absurd hl z
      · refine .inr ⟨d, hd, hlen, fun e => raisesD.toV (kerr ?_) hd, fun ms hms D G e hD => ⟨D, rfl, _, .inl hD, ?_, fun p np => ⟨e.trans (same_new np), ms, SqT.of (by rw [upd_same, List.map_append]), valsOf_range hms, fun z => k _ ?_, fun z => raisesD.toV (kerr ?_) hd⟩⟩⟩
        · unfold addOf
          rw [e]
        · have := (valsOf_range hms).1
          have := hvn.1
          rw [List.length_append, List.length_map, List.length_map, sizeLine_eq]
          omega
        · unfold addOf
          rw [hms]
          exact if_pos z
        · unfold addOf
          rw [hms]
          exact if_neg z
    rintro τ G ⟨p, ms, rfl, g, hp, hvm, k1, k2⟩
    refine ⟨fun τ G' => τ = [some (.ref x), some v, some (.ref p)] ∧ G' = G ∧ (ns ++ ms).length ≤ 60, ?_, ?_⟩
    · walk_at "wp"
      refine ⟨_, .inr hp, ?_⟩
      rw [List.length_map]
      refine ite2 (fun c => ?_) fun c => by omega
      exact err_of2 EB.oex EB.no fun d' hd' => k2 (by omega) _ d' g hd'
    rintro τ G' ⟨rfl, rfl, hl⟩
    walk_at "wp"
    refine ⟨_, .inl hp, ?_⟩
    have hvv : valsB ((ns ++ ms).map PyData.int) = true := valsB_ints hl fun n hn => by
      rcases List.mem_append.mp hn with h | h
      · exact hvn.2 n h
      · exact hvm.2 n h
    refine mk_run (dps_ints _) (by rw [List.length_map]; omega) (fun z => ?_) fun _ => ?_
    · rw [hvv] at z
      cases z
    · rw [map_intOf]
      exact (k1 hl).same g
def spRaddD (K : PySem.W.Frag) (C cB : Addr) : Sp := fun vs H Q E => ∃ (x : Addr) (ns : List Int) (v : V) (d : PyData), vs = [.ref x, v] ∧ DatAt K C H x ns ∧ valI ns ∧ DpE K H v d ∧ lenOk d ∧ (raddOf ns d = none → raisesD K cB d H E) ∧ ∀ ms, raddOf ns d = some ms → dataQ K C ms H Q
theorem scRaddD : FnScope ["self", "other", "values"] ["self", "other"] (defScope sRaddD) := ⟨rfl, rfl, rfl, by decide +kernel, rfl, by decide +kernel, by decide +kernel⟩
theorem c_raddD {C cB fI : Addr} {fdI : FuncData} {tk : Tok} (D : DefM K C "__radd__" "Data.__radd__" sRaddD ["self", "other"]) (T : Bl2 mg) (M : DatM P w K mg base C cB) (EB : ErrC K mg "BadData" cB fI) (gM : mg "MOST_VALUES" = some (.int 60 tk))
    (cI : FnOk P w K mg base CX0 1 fI fdI ["self", "value"] (spErr K)) (hbI : Binds K fdI ["self", "value"] []) (cV : FnC P w K mg base (L2.CX P w) 4 "_values_of" ["other"] (spValOf K C cB)) (cZ : FnC P w K mg base CX0 1 "without_zeros" ["values"] (spWoZ K)) : MtC P w K mg base (L2.CX P w) 6 C "__radd__" ["self", "other"] (spRaddD K C cB) := by
  refine D.okX scRaddD (fun vs H Q E h => ?_) (fun f cdv A outer s H vs Q E hr h => ?_)
  · obtain ⟨x, ns, v, d, rfl, _⟩ := h
    rfl
  · obtain ⟨x, ns, v, d, rfl, ⟨dx, t, hx, ht⟩, hvn, hd, hlen, kerr, k⟩ := h
    obtain ⟨fD, mk, FD⟩ := M.make
    have dc := M.dc
    have sc := scRaddD
    have hr1 : Room 1 _ := hr.mono (by decide)
    have hr2 : Room 2 _ := hr.mono (by decide)
    have hr4 : Room 4 _ := hr.mono (by decide)
    refine ⟨_, (pss_cut (ps_set (i := 2) sc.nd rfl (Or.inl rfl) (pe_tup (StX.pa_star (pe_c cZ hr1 rfl (pa_cons (pe_cX (E := WE (fun cls d _ H => E cls d H)) cV hr4 (fun σ => passAt (takes_of rfl rfl rfl rfl) σ) rfl (pa_cons (pv 1) pa_nil)) pa_nil)) (StX.pa_star (pe_fld (pv 0) rfl) pa_nil))))
      (pss_cut (ps_if (pt_cmpR op_gt (pe_callB call_len_seq (by rfl) T.n_len (by decide +kernel) (pa_cons (pv 2) pa_nil)) (pe_glob (v := .int 60) rfl gM ⟨_, rfl⟩) (nomark _)) (pss_one (ps_err EB cI hbI hr2 rfl (takes_of rfl rfl rfl rfl) (pv 1) rfl)) pss_nil)
      (pss_one (ps_ret (pe_makeVS (D := WE (fun cls d _ H => E cls d H)) mk FD hr (fun σ => passAt (takes_of rfl rfl rfl rfl) σ) rfl M.gD (pv 2)))))), ?_⟩
    refine ⟨fun τ G => ∃ p ms, τ = [some (.ref x), some v, some (.ref p)] ∧ Same H G ∧ SqT K G p ((trimZ ms ++ ns).map V.int) ∧ valI ms ∧ ((trimZ ms ++ ns).length ≤ 60 → dataQ K C (trimZ (trimZ ms ++ ns)) H Q) ∧ (¬ (trimZ ms ++ ns).length ≤ 60 → raisesV cB v H E), ?_, ?_⟩
    · walk_at "wp"
      refine ⟨v, rfl, .inr ⟨d, hd, hlen, fun e => raisesD.toV (kerr ?_) hd, fun ms hms D G e hD => ?_⟩⟩
      · unfold raddOf
        rw [e]
      · have h1 := (valsOf_range hms).1
        have h2 := trimZ_len ms
        have h3 := hvn.1
        refine ⟨D, ms, rfl, hD, by omega, fun D2 G2 e2 hD2 => ⟨D2, rfl, _, .inl hD2, C, dx, _, e2 _ _ (e _ _ hx), dc.cls, dc.n1, _, rfl, t, rfl, _, .inl (Same.sqT e2 (Same.sqT e ht)), ?_, fun p np => ⟨(e.trans e2).trans (same_new np), ms, SqT.of (by rw [upd_same, List.map_append]), valsOf_range hms, fun z => k _ ?_, fun z => raisesD.toV (kerr ?_) hd⟩⟩⟩
        · rw [List.length_append, List.length_map, List.length_map, sizeLine_eq]
          omega
        · unfold raddOf
          rw [hms]
          exact if_pos z
        · unfold raddOf
          rw [hms]
          exact if_neg z
    rintro τ G ⟨p, ms, rfl, g, hp, hvm, k1, k2⟩
    refine ⟨fun τ G' => τ = [some (.ref x), some v, some (.ref p)] ∧ G' = G ∧ (trimZ ms ++ ns).length ≤ 60, ?_, ?_⟩
    · walk_at "wp"
      refine ⟨_, .inr hp, ?_⟩
      rw [List.length_map]
      refine ite2 (fun c => ?_) fun c => by omega
      exact err_of2 EB.oex EB.no fun d' hd' => k2 (by omega) _ d' g hd'
    rintro τ G' ⟨rfl, rfl, hl⟩
    walk_at "wp"
    refine ⟨_, .inl hp, ?_⟩
    have hvv : valsB ((trimZ ms ++ ns).map PyData.int) = true := valsB_ints hl fun n hn => by
      rcases List.mem_append.mp hn with h | h
      · exact hvm.2 n (trimZ_mem h)
      · exact hvn.2 n h
    refine mk_run (dps_ints _) (by rw [List.length_map]; omega) (fun z => ?_) fun _ => ?_
    · rw [hvv] at z
      cases z
    · rw [map_intOf]
      exact (k1 hl).same g
/-! ### * -/
def spMulD (K : PySem.W.Frag) (C cB cN : Addr) : Sp := fun vs H Q E => ∃ (x : Addr) (ns : List Int) (v : V) (d : PyData), vs = [.ref x, v] ∧ DatAt K C H x ns ∧ valI ns ∧ Dp K H v d ∧ (btw d 0 60 = false → raisesD K cN d H E) ∧
  (btw d 0 60 = true → (¬ ns.length * (intOf d).toNat ≤ 60 → raisesD K cB d H E) ∧ (ns.length * (intOf d).toNat ≤ 60 → dataQ K C (trimZ (List.replicate (intOf d).toNat ns).flatten) H Q))
theorem scMulD : FnScope ["self", "other", "values"] ["self", "other"] (defScope sMulD) := ⟨rfl, rfl, rfl, by decide +kernel, rfl, by decide +kernel, by decide +kernel⟩
theorem rep_mem {ns : List Int} {k : Nat} {n : Int} (h : n ∈ (List.replicate k ns).flatten) : n ∈ ns := by
  obtain ⟨l, hl, hn⟩ := List.mem_flatten.mp h
  rw [(List.mem_replicate.mp hl).2] at hn
  exact hn
theorem rep_len (ns : List Int) (k : Nat) : (List.replicate k ns).flatten.length = ns.length * k := by
  rw [List.length_flatten, List.map_replicate, List.sum_replicate_nat, Nat.mul_comm]
theorem rep_map (ns : List Int) (k : Nat) : (List.replicate k (ns.map V.int)).flatten = ((List.replicate k ns).flatten).map V.int := by
  rw [List.map_flatten, List.map_replicate]
theorem c_mulD {C cB cN fI : Addr} {fdI : FuncData} {tk : Tok} (D : DefM K C "__mul__" "Data.__mul__" sMulD ["self", "other"]) (T : Bl2 mg) (M : DatM P w K mg base C cB) (EB : ErrC K mg "BadData" cB fI) (EN : ErrC K mg "BadNumber" cN fI) (gM : mg "MOST_VALUES" = some (.int 60 tk))
    (cI : FnOk P w K mg base CX0 1 fI fdI ["self", "value"] (spErr K)) (hbI : Binds K fdI ["self", "value"] []) (cB2 : FnC P w K mg base CX0 2 "is_between" ["value", "least", "most"] (spIsBetween K)) : MtC P w K mg base (L2.CX P w) 6 C "__mul__" ["self", "other"] (spMulD K C cB cN) := by
  refine D.okX scMulD (fun vs H Q E h => ?_) (fun f cdv A outer s H vs Q E hr h => ?_)
  · obtain ⟨x, ns, v, d, rfl, _⟩ := h
    rfl
  · obtain ⟨x, ns, v, d, rfl, ⟨dx, t, hx, ht⟩, hvn, hd, k0, k1⟩ := h
    obtain ⟨fD, mk, FD⟩ := M.make
    have dc := M.dc
    have sc := scMulD
    have hr2 : Room 2 _ := hr.mono (by decide)
    refine ⟨_, (pss_cut (ps_if (pt_not (pt_val (pe_c cB2 hr2 rfl (pa_cons (pv 1) (pa_cons pe_int (pa_cons (pe_glob (v := .int 60) rfl gM ⟨_, rfl⟩) pa_nil)))))) (pss_one (ps_err EN cI hbI hr2 rfl (takes_of rfl rfl rfl rfl) (pv 1) rfl)) pss_nil)
      (pss_cut (ps_set (i := 2) sc.nd rfl (Or.inl rfl) (pe_op op_repA (pe_fld (pv 0) rfl) (pv 1)))
      (pss_cut (ps_if (pt_cmpR op_gt (pe_callB call_len_seq (by rfl) T.n_len (by decide +kernel) (pa_cons (pv 2) pa_nil)) (pe_glob (v := .int 60) rfl gM ⟨_, rfl⟩) (nomark _)) (pss_one (ps_err EB cI hbI hr2 rfl (takes_of rfl rfl rfl rfl) (pv 1) rfl)) pss_nil)
      (pss_one (ps_ret (pe_makeVS (D := WE (fun cls d _ H => E cls d H)) mk FD hr (fun σ => passAt (takes_of rfl rfl rfl rfl) σ) rfl M.gD (pv 2))))))), ?_⟩
    refine ⟨fun τ G => τ = [some (.ref x), some v, none] ∧ G = H ∧ btw d 0 60 = true, ?_, ?_⟩
    · walk_at "wp"
      refine ⟨v, d, 0, 60, rfl, hd, _, rfl, ?_⟩
      cases e : btw d 0 60 with
      | false =>
        rw [if_pos (by rfl)]
        exact err_of2 EN.oex EN.no fun d' hd' => k0 e _ d' v (Same.refl _) (.inl hd) hd'
      | true =>
        rw [if_neg (show ¬ (!true) = true from Bool.false_ne_true)]
        exact ⟨rfl, rfl⟩
    rintro τ G ⟨rfl, rfl, hb⟩
    obtain ⟨ke, kk⟩ := k1 hb
    obtain ⟨ed, rfl⟩ := int_btw hb hd
    have hrange : 0 ≤ intOf d ∧ intOf d ≤ 60 := by
      rw [ed] at hb
      have z : (decide (0 ≤ intOf d) && decide (intOf d ≤ 60)) = true := hb
      rw [Bool.and_eq_true, decide_eq_true_eq, decide_eq_true_eq] at z
      exact z
    have hvl := hvn.1
    refine ⟨fun τ G2 => ∃ p, τ = [some (.ref x), some (.int (intOf d)), some (.ref p)] ∧ Same G G2 ∧ SqT K G2 p (((List.replicate (intOf d).toNat ns).flatten).map V.int), ?_, ?_⟩
    · walk_at "wp"
      refine ⟨C, dx, _, hx, dc.cls, dc.n1, _, rfl, t, rfl, _, ht, by omega, by omega, by rw [List.length_map]; omega, fun p G2 e hp => ⟨e, ?_⟩⟩
      rw [← rep_map]
      exact hp
    rintro τ G2 ⟨p, rfl, g, hp⟩
    have hlen : ns.length * (intOf d).toNat ≤ 3600 := Nat.le_trans (Nat.mul_le_mul hvl (show (intOf d).toNat ≤ 60 by omega)) (by decide)
    refine ⟨fun τ G3 => τ = [some (.ref x), some (.int (intOf d)), some (.ref p)] ∧ G3 = G2 ∧ ns.length * (intOf d).toNat ≤ 60, ?_, ?_⟩
    · walk_at "wp"
      refine ⟨_, .inr hp, ?_⟩
      rw [List.length_map, rep_len]
      refine ite2 (fun c => ?_) fun c => by omega
      exact err_of2 EB.oex EB.no fun d' hd' => ke (by omega) _ d' _ g (.inl (dp_same g _ _ hd)) hd'
    rintro τ G3 ⟨rfl, rfl, hl⟩
    walk_at "wp"
    refine ⟨_, .inl hp, ?_⟩
    have hvv : valsB (((List.replicate (intOf d).toNat ns).flatten).map PyData.int) = true := valsB_ints (by rw [rep_len]; exact hl) fun n hn => hvn.2 n (rep_mem hn)
    refine mk_run (dps_ints _) (by rw [List.length_map, rep_len]; omega) (fun z => ?_) fun _ => ?_
    · rw [hvv] at z
      cases z
    · rw [map_intOf]
      exact (kk hl).same g
/-- types beside an own operator -/
structure OpAll (K : PySem.W.Frag) (C : Addr) (op : Operator) : Prop where
  own : OpC K C op
  non : OpT K C op "NoneType"
  bool : OpT K C op "bool"
  int : OpT K C op "int"
  str : OpT K C op "str"
  list : OpT K C op "list"
  tup : OpT K C op "tuple"
  dict : OpT K C op "dict"
theorem OpAll.of {C : Addr} {op : Operator} (o : OpAll K C op) (d : PyData) : OpT K C op (tyOf d) := by
  cases d with
  | none => exact o.non
  | bool b => exact o.bool
  | int i => exact o.int
  | str z => exact o.str
  | list ds => exact o.list
  | tuple ds => exact o.tup
  | dict kvs => exact o.dict
theorem scRmulD : FnScope ["self", "other"] ["self", "other"] (defScope sRmulD) := ⟨rfl, rfl, rfl, by decide +kernel, rfl, by decide +kernel, by decide +kernel⟩
theorem c_rmulD {C cB cN : Addr} (D : DefM K C "__rmul__" "Data.__rmul__" sRmulD ["self", "other"]) (O : OpAll K C .Mult) (M : MtC P w K mg base (L2.CX P w) 6 C "__mul__" ["self", "other"] (spMulD K C cB cN)) : MtC P w K mg base (L2.CX P w) 7 C "__rmul__" ["self", "other"] (spMulD K C cB cN) := by
  refine D.okX scRmulD (fun vs H Q E h => ?_) (fun f cdv A outer s H vs Q E hr h => ?_)
  · obtain ⟨x, ns, v, d, rfl, _⟩ := h
    rfl
  · have hh := h
    obtain ⟨x, ns, v, d, rfl, ⟨dx, t, hx, ht⟩, hvn, hd, k0, k1⟩ := h
    have sc := scRmulD
    refine ⟨_, (pss_one (ps_ret (pe_opI (op := .Mult) (E := WE (fun cls d _ H => E cls d H)) M O.own hr (fun σ => passAt (takes_of rfl rfl rfl rfl) σ) (pv 0) (pv 1)))), ?_⟩
    walk_at "wp"
    exact ⟨⟨dx, _, hx⟩, .inr ⟨_, ty_dp hd, O.of d⟩, hh⟩
end
end YY

set_option maxRecDepth 100000
set_option maxHeartbeats 4000000
namespace YY
open PySem PySem.Spec PyProof.Rows L2 XX
local macro_rules | `(tactic| walk_at "wp") => `(tactic| simp only [tPar3, rIndex, tAug, rExt2, tSeq, tNext, tAsg, tPar, gName, tCB, tCons, tNil, tVar, tC, tOp, tUn, rI, rI0, rU, tLst, tTup, tFor_eq, iRng1, iRng2, iList, iTup, tRet, tRetN, tDrop, tIfS, tTest, tB, tAnd, tOr, tNot, tIf, tAndV, tOrV, tNotV, tCall, tBM, tBM0, rIxL, rIxT, rAppend, tLc_eq, gSub, rSetL, rEq, rNe, rMulS, rIxS, tRevT, gTup, gCons, gNil, wipe, tYes, LcEnd, tDisp, tPairs, tChain, tSl, tPart, tNoPart, rSlT, rSlL, rCatT, rCat, rRep, rIsD, V.ty.injEq, iZipB, tDNewK, tXf, wMA, wAs, rLenK, tLenSetS, rReprE, tVeI, tOst, tErr, tMkO, sFld, tFld, rIsE2, tMakeS, rListStr, tDNotIn, tDIn, tDGet, rSetD, gSub, iEnumA, rIxD, iStr, rIn, rEqI, rLenI, tIxI, rSetI, rSortedSet, rEqK, rEqV, tCallS, tDc_eq, tLc2_eq, tMeth, tMethX, tSMeth, tMakeV, tMakeVS, tMakeRS, WE, tOpI, tOpR, tMulD, rRepA, rReprI, rCatA, StX.tMakeR, StX.tStar, tLock, tLockE, iItems, iKeys,
  cxOf_K, cxOf_noxK, L2.start, List.map_cons, List.map_nil, List.length_cons, List.length_nil, Nat.reduceAdd, Nat.reduceSub, List.replicate_succ, List.replicate_zero, List.replicate, List.cons_append, List.nil_append, List.getElem?_cons_zero, List.getElem?_cons_succ, List.set_cons_zero, List.set_cons_succ, List.append_nil,
  Option.some.injEq, V.int.injEq, V.ref.injEq, V.bl.injEq, V.str.injEq, List.cons.injEq, and_true, true_and, exists_eq_left', exists_eq_left, exists_and_left, exists_and_right, exists_const, bool_ite_true, bool_ite_false, dec_ite, ndec_ite, reduceCtorEq, false_or, or_false, false_and, and_false, decide_eq_true_eq, and_assoc, reduceIte, ite_true, ite_false, Int.zero_add])

/-! ### _law_values, _law_trimmed -/
abbrev sValues : Stmt := topS 19
abbrev sTrimmed : Stmt := topS 20
section
variable {P : Program} {w : World} {K : PySem.W.Frag} {mg : Str → Option Value} {base : Heap}
def spValues (K : PySem.W.Frag) : Sp := fun vs H Q _ => ∃ (p : Addr) (size top : Int), vs = [.ref p, .int size, .int top] ∧ Pool H p ∧ 0 < size ∧ 0 ≤ top ∧ top ≤ 100 ∧
  ∀ (D : Addr) (ns : List Int) (G : Hp), Gr p H G → H D = none → G D = some (.lst (ns.map V.int)) → (ns.length : Int) ≤ top → (∀ n ∈ ns, 0 ≤ n ∧ n < size) → Q (.ref D) G
theorem scValues : FnScope ["pool", "size", "top", "turn"] ["pool", "size", "top"] (defScope sValues) := ⟨rfl, rfl, rfl, by decide +kernel, rfl, by decide +kernel, by decide +kernel⟩
theorem c_values (D : Def K mg "_law_values" sValues ["pool", "size", "top"]) (T : Bl2 mg) (cD : FnC P w K mg base CX0 1 "_law_draw" ["pool", "many"] spDraw) : FnC P w K mg base CX0 2 "_law_values" ["pool", "size", "top"] (spValues K) := by
  refine D.ok scValues (fun vs H Q E h => ?_) (fun f cdv A outer s H vs Q E hr h => ?_)
  · obtain ⟨p, size, top, rfl, _⟩ := h
    rfl
  · obtain ⟨p, size, top, rfl, hP, h0, h1, h2, k⟩ := h
    have sc := scValues
    refine ⟨_, (pss_one (ps_ret (pe_lc (own := [("turn", 3)]) (g := gName 3) (tt := tYes) rfl sc.nd (pi_range1 (by rfl) T.n_range (pa_cons (pe_c cD hr rfl (pa_cons (pv 0) (pa_cons (pe_op op_add (pv 2) pe_int) pa_nil))) pa_nil)) (blkOk_by (N := ["pool", "size", "top", "turn"]) (sc := defScope sValues) (by decide +kernel)) (fun _ _ _ _ _ => (pg_name (i := 3) sc.nd rfl (Or.inl rfl))) (fun _ _ _ _ _ => pts_nil) (fun _ _ _ _ _ => (pe_c cD hr rfl (pa_cons (pv 0) (pa_cons (pv 1) pa_nil))))))), ?_⟩
    walk_at "wp"
    refine ⟨p, top + 1, rfl, hP, by omega, fun v G1 v0 v1 g1 => ⟨v, rfl, by omega, by omega, ?_⟩⟩
    refine lcw_it (walk_range (lo := 0)) (fun D i G => Gr p H G ∧ ∃ (ns : List Int), G D = some (.lst (ns.map V.int)) ∧ ns.length = i ∧ ∀ n ∈ ns, 0 ≤ n ∧ n < size)
      (fun D hD => ⟨g1.trans (Gr.new g1.pool hD), [], upd_same, rfl, fun r h => (nomatch h)⟩) (fun _ _ _ _ _ => True.intro) ?_ ?_
    · rintro D i x G G' hD hi ⟨g3, ns, h3, h4, h5⟩ ⟨rfl, rfl⟩
      walk_at "wp"
      have nDp : D ≠ p := (g1.pool.ne_none hD).symm
      refine ⟨p, size, rfl, g3.pool, h0, fun n G4 n0 n1 g4 => ?_⟩
      have h3' := g4.keep D _ nDp h3
      have hHD : H D = none := g1.free hP hD
      refine ⟨_, h3', by rw [List.length_map, h4, sizeLine_eq]; omega, (g3.trans g4).mut hP hHD, ns ++ [n], by rw [upd_same, List.map_append]; rfl, by rw [List.length_append, h4]; rfl, fun m hm => ?_⟩
      rcases List.mem_append.mp hm with h | h
      · exact h5 m h
      · rw [List.mem_singleton.mp h]
        exact ⟨n0, n1⟩
    · rintro D G hD ⟨g3, ns, h3, h4, h5⟩
      exact k D ns G g3 (g1.free hP hD) h3 (by omega) h5
theorem cut_last (xs : List V) (x : V) : cutV (xs ++ [x]) none (some (-1)) = xs := by
  have e1 : HT.sIx (xs ++ [x]).length (xs ++ [x]).length (some (-1)) = xs.length := by
    show (if (-1 : Int) < 0 then ((-1 : Int) + ((xs ++ [x]).length : Int)).toNat else min (-1 : Int).toNat (xs ++ [x]).length) = xs.length
    rw [if_pos (by decide), List.length_append]
    simp
    omega
  have e3 : HT.sIx (xs ++ [x]).length 0 none = 0 := rfl
  unfold cutV
  rw [e1, e3, Nat.sub_zero, List.drop_zero, List.take_left']
  rfl
def spTrimmed (K : PySem.W.Frag) : Sp := fun vs H Q _ => ∃ (a : Addr) (ns : List Int), vs = [.ref a] ∧ (SqL K H a (ns.map V.int) ∨ SqT K H a (ns.map V.int)) ∧ ns.length ≤ 900 ∧ ∀ t G, Same H G → SqT K G t ((trimZ ns).map V.int) → Q (.ref t) G
theorem scTrimmed : FnScope ["some", "found"] ["some"] (defScope sTrimmed) := ⟨rfl, rfl, rfl, by decide +kernel, rfl, by decide +kernel, by decide +kernel⟩
theorem c_trimmed (D : Def K mg "_law_trimmed" sTrimmed ["some"]) (T : Bl2 mg) : FnC P w K mg base CX0 1 "_law_trimmed" ["some"] (spTrimmed K) := by
  refine D.ok scTrimmed (fun vs H Q E h => ?_) (fun f cdv A outer s H vs Q E hr h => ?_)
  · obtain ⟨a, ns, rfl, _⟩ := h
    rfl
  · obtain ⟨a, ns, rfl, ha, hl, k⟩ := h
    have sc := scTrimmed
    refine ⟨_, (pss_cons (ps_set (i := 1) sc.nd rfl (Or.inl rfl) (pe_callTy call_list_of (by rfl) T.n_list (by decide +kernel) (pa_cons (pv 0) pa_nil)))
      (pss_cut (ps_while PassesOwn.never (PW.pt (pw_and (pt_cmpR (op_neD hr.units) (pv 1) (pe_lst pa_nil) (nomark _)) (pw_and1 (pt_cmpR op_eq (pe_ix ix_list (pv 1) (pe_un un_neg pe_int) (fun _ _ => rfl)) pe_int (nomark _))))) (pss_one (ps_set (i := 1) sc.nd rfl (Or.inl rfl) (pe_slice sl_list (pv 1) po_none (po_some (pe_un un_neg pe_int))))))
      (pss_one (ps_ret (pe_callTy call_tuple_of (by rfl) T.n_tuple (by decide +kernel) (pa_cons (pv 1) pa_nil)))))), ?_⟩
    walk_at "wp"
    refine ⟨_, ha, fun l hl' => ?_⟩
    have s1 := same_new (o := .lst (ns.map V.int)) hl'
    generalize hG : upd H l (.lst (ns.map V.int)) = G1 at s1 ⊢
    have hl1 : G1 l = some (.lst (ns.map V.int)) := by rw [← hG]; exact upd_same
    refine ⟨fun τ G => ∃ (l : Addr) (ms : List Int), τ = [some (.ref a), some (.ref l)] ∧ Same H G ∧ G l = some (.lst (ms.map V.int)) ∧ ms = trimZ ns, ?_, ?_⟩
    · walk_at "wp"
      refine ⟨fun m' τ G => ∃ (l : Addr) (ms : List Int), m' = ms.length ∧ τ = [some (.ref a), some (.ref l)] ∧ Same H G ∧ G l = some (.lst (ms.map V.int)) ∧ ms.length ≤ ns.length ∧ trimZ ms = trimZ ns, ⟨_, l, ns, rfl, rfl, s1, hl1, Nat.le_refl _, rfl⟩, ?_⟩
      rintro m' τ G ⟨l, ms, rfl, rfl, s2, hl2, hle, hz⟩
      walk_at "wp"
      refine ⟨Nat.zero_le _, fun q hq => ?_⟩
      have s3 := same_new (o := .lst []) hq
      have hl3 := s3 _ _ hl2
      refine ⟨_, _, .lst (SqL.of hl3) (dps_ints ms), .lst (SqL.of upd_same) .nil, shaped_ints ms, shaped_ints [], _, rfl, ?_⟩
      rw [show PyData.eqv (.list (ms.map PyData.int)) (.list []) = decide (ms = []) from eqv_intsL ms []]
      cases hms : ms.reverse with
      | nil =>
        have e0 : ms = [] := List.reverse_eq_nil_iff.mp hms
        subst e0
        rw [if_neg (by simp)]
        exact ⟨s2.trans s3, [], hl3, by rw [← hz]; rfl⟩
      | cons n r =>
        have e0 : ms = r.reverse ++ [n] := by
          have := congrArg List.reverse hms
          rw [List.reverse_reverse, List.reverse_cons] at this
          exact this
        rw [if_pos (by rw [e0]; simp)]
        subst e0
        refine ⟨_, SqL.of hl3, .int n, by rw [List.map_append]; exact atI_last _ _, rfl, ite2 (fun c2 => ?_) fun c2 => ?_⟩
        · have e0 : n = 0 := by
            injection c2
          refine ⟨fun σ' H' => ∃ q2, σ' = [some (.ref a), some (.ref q2)] ∧ Same H H' ∧ H' q2 = some (.lst (r.reverse.map V.int)), fun σ' H' ⟨q2, z1, z2, z3⟩ => ⟨_, ?_, q2, r.reverse, rfl, z1, z2, z3, ?_, ?_⟩, _, SqL.of hl3, fun q2 hq2 => ⟨q2, rfl, (s2.trans s3).trans (same_new hq2), ?_⟩⟩
          · rw [List.length_append]
            exact Nat.lt_succ_self _
          · rw [List.length_append] at hle
            simp only [List.length_cons, List.length_nil] at hle
            omega
          · rw [← hz, e0, trimZ_zero]
          · rw [upd_same, List.map_append]
            exact congrArg (fun z => some (HO.lst z)) (cut_last _ _)
        · refine ⟨s2.trans s3, _, hl3, ?_⟩
          rw [← hz, trimZ_keep fun z => c2 (by rw [z])]
    rintro τ G ⟨l, ms, rfl, g, hl2, rfl⟩
    walk_at "wp"
    exact ⟨_, .inl ⟨SqL.of hl2, fun l2 hl3 => k l2 _ (g.trans (same_new hl3)) (SqT.of upd_same)⟩⟩
end
end YY

set_option maxRecDepth 100000
set_option maxHeartbeats 4000000
namespace XX
open PySem PySem.Spec PyProof.Rows L2
section
variable {X : Cx} {CX : CXT} {k : Nat} {C : Addr} {sp : Sp}
/-- x * b, b an instance of C, x an int, a bool, or of a built-in type without number slots -/
def tMulA (K : PySem.W.Frag) (C : Addr) (sp : Sp) (E : L2.St → XK) (ta tb : TE) : TE := fun σ H Q => ta σ H fun x H1 => tb σ H1 fun y H2 => ∃ b dy gs, y = .ref b ∧ H2 b = some (.ins C dy gs) ∧ (((∃ i, x = .int i) ∨ ∃ t, x = .bl t) ∨ ∃ T, TyX K H2 x (.type T) ∧ OpN K .Mult T) ∧ sp [y, x] H2 Q (E σ)
theorem pe_mulA {E : L2.St → XK} {ta tb : TE} {a b : Expr} {pos : Pos} (M : MtC X.prog X.w X.K X.mg X.base CX k C "__rmul__" ["self", "other"] sp) (hs : ∃ f0 : Addr, PySem.W.findIn X.K (.ref C) "__mul__" = some (some (.ref f0))) (hc : PySem.W.selfFirst X.K C = true)
    (hi : PySem.W.subIn X.K (.ref C) (.type "int") = some false) (hb : PySem.W.subIn X.K (.ref C) (.type "bool") = some false) (hr : Room k X.A) (hx : ∀ σ, PassesAt CX X σ (E σ)) (ha : PE X a ta) (hb' : PE X b tb) : PE X (.BinOp a .Mult b pos) (tMulA X.K C sp E ta tb) := by
  refine ⟨fun pins s σ H Q I h => ?_⟩
  refine wpAny_BinOp (binT ha hb' I h fun v u s2 x y H2 I2 rx ry q => ?_)
  obtain ⟨b', dx, fs, rfl, ea, hT, q2⟩ := q
  obtain rfl : u = Value.ref b' := ry
  obtain ⟨f, fd, F, hm, bi⟩ := M.ex
  obtain ⟨f0, hs⟩ := hs
  obtain ⟨mA, J, _⟩ := ins_get I2.hok ea
  have ho := J.obj
  obtain ⟨od, J, _⟩ := J.look
  obtain ⟨m, hF⟩ := I2.fr
  have run := wpAny_mono (run_at F hr I2.env0 bi (hx σ) I2 (us := [.ref b', v]) (vs := [.ref b', x]) (.cons rfl (.cons rx .nil)) q2) (fun w s' q => by
    obtain ⟨z, H', I', rz, q⟩ := q
    exact rel_back (Q := EP X pins σ Q) rz ⟨z, H', I', rz, q⟩) fun _ _ e => e
  rcases hT with (⟨i, rfl⟩ | ⟨t, rfl⟩) | ⟨T, hT, fo, ro, h3, h4, h5⟩
  · obtain ⟨tk, rfl⟩ := rx
    exact PySem.W.own_binD (op := .Mult) (T := "int") hF I2.ok.mod.kin J (PySem.typeIs_int s2 i tk) hc hs hm.at_ hm.fn PySem.F.fills_int_mul PySem.F.slot_int_mul hi
      (fun R q => call_meets PySem.F.slot_int_mul (PySem.typeIs_int s2 i tk) PySem.F.entry_int_mul (PySem.F.args_int_mul_2 _ _) (int___mul___int_ins i tk b' C dx) ⟨ho, q⟩) run
  · cases rx
    exact PySem.W.own_binD (op := .Mult) (T := "bool") hF I2.ok.mod.kin J (PySem.typeIs_bool s2 t) hc hs hm.at_ hm.fn PySem.F.fills_bool_mul PySem.F.slot_bool_mul hb
      (fun R q => call_meets PySem.F.slot_bool_mul (PySem.typeIs_bool s2 t) PySem.F.entry_int_mul (PySem.F.args_int_mul_2 _ _) (int___mul___bool_ins t b' C dx) ⟨ho, q⟩) run
  · obtain ⟨Pk, Z, hP, _⟩ := kit_of I2 rx hT
    exact PySem.W.own_binR (op := .Mult) hF I2.ok.mod.kin J (Z.ty _ _ I2.kIn hP) hc hs hm.at_ hm.fn h3 h4 h5 run
/-! ### the same where K is told -/
theorem pe_mulAK {E : L2.St → XK} {ta tb : TE} {a b : Expr} {pos : Pos} (K : PySem.W.Frag) (e : X.K = K) (M : MtC X.prog X.w K X.mg X.base CX k C "__rmul__" ["self", "other"] sp) (hs : ∃ f0 : Addr, PySem.W.findIn K (.ref C) "__mul__" = some (some (.ref f0))) (hc : PySem.W.selfFirst K C = true)
    (hi : PySem.W.subIn K (.ref C) (.type "int") = some false) (hb : PySem.W.subIn K (.ref C) (.type "bool") = some false) (hr : Room k X.A) (hx : ∀ σ, PassesAt CX X σ (E σ)) (ha : PE X a ta) (hb' : PE X b tb) : PE X (.BinOp a .Mult b pos) (tMulA K C sp E ta tb) := by
  subst e
  exact pe_mulA M hs hc hi hb hr hx ha hb'
theorem pe_opIK {op : Operator} {E : L2.St → XK} {ta tb : TE} {a b : Expr} {pos : Pos} (K : PySem.W.Frag) (e : X.K = K) (M : MtC X.prog X.w K X.mg X.base CX k C (PySem.dunder op.info.2) ["self", "other"] sp) (O : OpC K C op) (hr : Room k X.A) (hx : ∀ σ, PassesAt CX X σ (E σ)) (ha : PE X a ta) (hb : PE X b tb) : PE X (.BinOp a op b pos) (tOpI K C op sp E ta tb) := by
  subst e
  exact pe_opI M O hr hx ha hb
theorem pe_opRK {op : Operator} {E : L2.St → XK} {ta tb : TE} {a b : Expr} {pos : Pos} (K : PySem.W.Frag) (e : X.K = K) (M : MtC X.prog X.w K X.mg X.base CX k C (dunderR op.info.2) ["self", "other"] sp) (hs : ∃ f0 : Addr, PySem.W.findIn K (.ref C) (PySem.dunder op.info.2) = some (some (.ref f0))) (hc : PySem.W.selfFirst K C = true) (hr : Room k X.A) (hx : ∀ σ, PassesAt CX X σ (E σ)) (ha : PE X a ta) (hb : PE X b tb) : PE X (.BinOp a op b pos) (tOpR K C op sp E ta tb) := by
  subst e
  exact pe_opR M hs hc hr hx ha hb
end
end XX

set_option maxRecDepth 100000
set_option maxHeartbeats 4000000
namespace YY
open PySem PySem.Spec PyProof.Rows L2 XX
local macro_rules | `(tactic| walk_at "wp") => `(tactic| simp only [tPar3, rIndex, tAug, rExt2, tSeq, tNext, tAsg, tPar, gName, tCB, tCons, tNil, tVar, tC, tOp, tUn, rI, rI0, rU, tLst, tTup, tFor_eq, iRng1, iRng2, iList, iTup, tRet, tRetN, tDrop, tIfS, tTest, tB, tAnd, tOr, tNot, tIf, tAndV, tOrV, tNotV, tCall, tBM, tBM0, rIxL, rIxT, rAppend, tLc_eq, gSub, rSetL, rEq, rNe, rMulS, rIxS, tRevT, gTup, gCons, gNil, wipe, tYes, LcEnd, tDisp, tPairs, tChain, tSl, tPart, tNoPart, rSlT, rSlL, rCatT, rCat, rRep, rIsD, V.ty.injEq, iZipB, tDNewK, tXf, wMA, wAs, rLenK, tLenSetS, rReprE, tVeI, tOst, tErr, tMkO, sFld, tFld, rIsE2, tMakeS, rListStr, tDNotIn, tDIn, tDGet, rSetD, gSub, iEnumA, rIxD, iStr, rIn, rEqI, rLenI, tIxI, rSetI, rSortedSet, rEqK, rEqV, tCallS, tDc_eq, tLc2_eq, tMeth, tMethX, tSMeth, tMakeV, tMakeVS, tMakeRS, WE, tOpI, tOpR, tMulD, tMulA, tM1, rRepA, rReprI, rCatA, StX.tMakeR, StX.tStar, tLock, tLockE, iItems, iKeys,
  cxOf_K, cxOf_noxK, L2.start, List.map_cons, List.map_nil, List.length_cons, List.length_nil, Nat.reduceAdd, Nat.reduceSub, List.replicate_succ, List.replicate_zero, List.replicate, List.cons_append, List.nil_append, List.getElem?_cons_zero, List.getElem?_cons_succ, List.set_cons_zero, List.set_cons_succ, List.append_nil,
  Option.some.injEq, V.int.injEq, V.ref.injEq, V.bl.injEq, V.str.injEq, List.cons.injEq, and_true, true_and, exists_eq_left', exists_eq_left, exists_and_left, exists_and_right, exists_const, bool_ite_true, bool_ite_false, dec_ite, ndec_ite, reduceCtorEq, false_or, or_false, false_and, and_false, decide_eq_true_eq, and_assoc, reduceIte, ite_true, ite_false, Int.zero_add])

/-! ### _law_shows -/
abbrev sShows : Stmt := topS 21
structure DMeths (P : Program) (w : World) (K : PySem.W.Frag) (mg : Str → Option Value) (base : Heap) (C cB cN : Addr) : Prop where
  M : DatM P w K mg base C cB
  ic : IsC K C
  nd : NoD K C
  eq : MtC P w K mg base CX0 1 C "__eq__" ["self", "other"] (spEqD K C)
  len : MtC P w K mg base CX0 1 C "__len__" ["self"] (spLenD K C)
  rep : MtC P w K mg base CX0 1 C "__repr__" ["self"] (spReprD K C)
  item : MtC P w K mg base (L2.CX P w) 3 C "__getitem__" ["self", "index"] (spGetD K C cN)
  add : MtC P w K mg base (L2.CX P w) 6 C "__add__" ["self", "other"] (spAddD K C cB)
  radd : MtC P w K mg base (L2.CX P w) 6 C "__radd__" ["self", "other"] (spRaddD K C cB)
  mul : MtC P w K mg base (L2.CX P w) 6 C "__mul__" ["self", "other"] (spMulD K C cB cN)
  rmul : MtC P w K mg base (L2.CX P w) 7 C "__rmul__" ["self", "other"] (spMulD K C cB cN)
  of : ∃ mc p g gd, ClX.CRead K C mc ∧ SMet K C mc "of" p g ∧ FnOk P w K mg base (L2.CX P w) 6 g gd ["values"] (spOf K C cB) ∧ Binds K gd ["values"] []
  addO : OpAll K C .Add
  mulO : OpAll K C .Mult
  raL : OpN K .Add "list"
  raT : OpN K .Add "tuple"
  rmN : OpN K .Mult "NoneType"
  rmS : OpN K .Mult "str"
  fAdd : ∃ f0 : Addr, PySem.W.findIn K (.ref C) "__add__" = some (some (.ref f0))
  fMul : ∃ f0 : Addr, PySem.W.findIn K (.ref C) "__mul__" = some (some (.ref f0))
  sInt : PySem.W.subIn K (.ref C) (.type "int") = some false
  sBool : PySem.W.subIn K (.ref C) (.type "bool") = some false
  nf : PySem.W.notFirst K C (.type "tuple") = true
  ne : PySem.W.findIn K (.ref C) "__ne__" = some (some (.builtin "object.__ne__"))
  ob : PySem.W.subIn K (.ref C) (.type "object") = some true
  fi : ∀ f, PySem.W.findIn K (.ref C) "__getitem__" = some (some (.ref f)) → PySem.W.fnIn K f = true
theorem trimZ_idem (ns : List Int) : trimZ (trimZ ns) = trimZ ns := by
  unfold trimZ
  rw [List.reverse_reverse]
  have h : ∀ l : List Int, (l.dropWhile fun n => n == 0).dropWhile (fun n => n == 0) = l.dropWhile fun n => n == 0 := fun l => by
    induction l with
    | nil => rfl
    | cons a l ih =>
      by_cases c : (a == 0) = true
      · rw [List.dropWhile_cons, if_pos c]
        exact ih
      · rw [List.dropWhile_cons, if_neg c, List.dropWhile_cons, if_neg c]
  rw [h]
theorem digit_len {n : Int} (h : 0 ≤ n ∧ n ≤ 2) : ((toString n : String) : Str).length = 1 := by
  have : n = 0 ∨ n = 1 ∨ n = 2 := by omega
  rcases this with rfl | rfl | rfl <;> decide +kernel
theorem digit_sum : ∀ {ns : List Int}, (∀ n ∈ ns, 0 ≤ n ∧ n ≤ 2) → ((ns.map fun n => ((toString n : String) : Str)).map fun x => x.length).sum = ns.length
  | [], _ => rfl
  | n :: ns, h => by
    rw [List.map_cons, List.map_cons, List.sum_cons, digit_sum fun m hm => h m (List.mem_cons_of_mem _ hm), digit_len (h n (List.mem_cons_self ..)), List.length_cons]
    omega
theorem digit_join {ns : List Int} (hv : valI ns) : (Txt.join ", " (ns.map fun n => ((toString n : String) : Str))).length ≤ 1000 := by
  have z := StrLaws.join_length_le (", " : Str) (ns.map fun n => ((toString n : String) : Str))
  rw [digit_sum hv.2, List.length_map] at z
  have z2 : ((", " : Str)).length = 2 := by decide +kernel
  rw [z2] at z
  have e : Txt.join ", " (ns.map fun n => ((toString n : String) : Str)) = Str.join ", " (ns.map fun n => ((toString n : String) : Str)) := StrLaws.glued_eq_join ..
  rw [e]
  have := hv.1
  exact Nat.le_trans z (show ns.length + ns.length * 2 ≤ 1000 by omega)
section
variable {P : Program} {w : World} {K : PySem.W.Frag} {mg : Str → Option Value} {base : Heap}
def spShows (K : PySem.W.Frag) (C : Addr) : Sp := fun vs H Q _ => ∃ (x a : Addr) (ns ms : List Int), vs = [.ref x, .ref a] ∧ DatAt K C H x ns ∧ (SqL K H a (ms.map V.int) ∨ SqT K H a (ms.map V.int)) ∧ ns = trimZ ms ∧ ms.length ≤ 900 ∧ valI ns ∧ ∀ G, Same H G → Q (.bl true) G
theorem scShows : FnScope ["data", "some", "due", "line", "one", "at"] ["data", "some"] (defScope sShows) := ⟨rfl, rfl, rfl, by decide +kernel, rfl, by decide +kernel, by decide +kernel⟩
theorem c_shows {C cB cN : Addr} (D : Def K mg "_law_shows" sShows ["data", "some"]) (T : Bl2 mg) (n_str : mg "str" = none) (n_repr : mg "repr" = none) (Z : DMeths P w K mg base C cB cN)
    (cT : FnC P w K mg base CX0 1 "_law_trimmed" ["some"] (spTrimmed K)) : FnC P w K mg base CX0 7 "_law_shows" ["data", "some"] (spShows K C) := by
  refine D.ok scShows (fun vs H Q E h => ?_) (fun f cdv A outer s H vs Q E hr h => ?_)
  · obtain ⟨x, a, ns, ms, rfl, _⟩ := h
    rfl
  · obtain ⟨x, a, ns, ms, rfl, hx, ha, rfl, hml, hv, k⟩ := h
    have sc := scShows
    have hr1 : Room 1 _ := hr.mono (by decide)
    have hr2 : Room 2 _ := hr.mono (by decide)
    have hr4 : Room 4 _ := hr.mono (by decide)
    obtain ⟨mc, pO, gO, gd, cr, sm, FO, bO⟩ := Z.of
    have dc := Z.M.dc
    refine ⟨_, (pss_cons (ps_if (pt_not (pt_val (pe_callB call_isi (by rfl) T.n_isinstance (by decide +kernel) (pa_cons (pv 0) (pa_cons (pe_glob (v := .ref C) rfl Z.M.gD rfl) pa_nil))))) (pss_one (ps_ret pe_bl)) pss_nil)
      (pss_cons (ps_set (i := 2) sc.nd rfl (Or.inl rfl) (pe_c cT hr1 rfl (pa_cons (pv 1) pa_nil)))
      (pss_cut (ps_set (i := 3) sc.nd rfl (Or.inl rfl) (pe_op op_add_str (pe_op op_add_str pe_str (pe_join pe_str (pe_lc (own := [("one", 4)]) (g := gName 4) (tt := tYes) rfl sc.nd (pi_tup (pv 2)) (blkOk_by (N := ["data", "some", "due", "line", "one", "at"]) (sc := defScope sShows) (by decide +kernel)) (fun _ _ _ _ _ => (pg_name (i := 4) sc.nd rfl (Or.inl rfl))) (fun _ _ _ _ _ => pts_nil) (fun _ _ _ _ _ => (pe_callTy call_str_int (by rfl) n_str (by decide +kernel) (pa_cons (pv 4) pa_nil)))))) pe_str))
      (pss_cons (ps_if (PW.pt (pw_or (pt_cmpR (op_neD hr.units) (pe_fld (pv 0) rfl) (pv 2) (nomark _)) (pw_or (pt_cmpR op_ne (pe_callB (call_lenI Z.len hr2) (by rfl) T.n_len (by decide +kernel) (pa_cons (pv 0) pa_nil)) (pe_callB call_len_seq (by rfl) T.n_len (by decide +kernel) (pa_cons (pv 2) pa_nil)) (nomark _)) (pw_or1 (pt_cmpR op_ne (pe_callB (call_reprI Z.rep hr2) (by rfl) n_repr (by decide +kernel) (pa_cons (pv 0) pa_nil)) (pv 3) (nomark _)))))) (pss_one (ps_ret pe_bl)) pss_nil)
      (pss_cut (ps_for PassesOwn.never rfl (pi_range1 (by rfl) T.n_range (pa_cons (pe_op op_add (pe_callB call_len_seq (by rfl) T.n_len (by decide +kernel) (pa_cons (pv 2) pa_nil)) pe_int) pa_nil)) (pg_name (i := 5) sc.nd rfl (Or.inl rfl))
        (pss_one (ps_if (pt_cmpR op_ne (pe_ixI (E := fun _ => E0) Z.item Z.fi hr4 (fun σ => passLAt σ) (pv 0) (pv 5)) (pe_ifExp (pt_cmpR op_lt (pv 5) (pe_callB call_len_seq (by rfl) T.n_len (by decide +kernel) (pa_cons (pv 2) pa_nil)) (nomark _)) (pe_ix ix_tup (pv 2) (pv 5) (fun _ _ => rfl)) pe_int) (nomark _)) (pss_one (ps_ret pe_bl)) pss_nil)))
      (pss_one (ps_ret (pe_and (pe_cmpR (op_eqI Z.eq Z.nf hr1) (pv 0) (pe_smeth (E := fun _ => E0) (pe_glob (v := .ref C) rfl Z.M.gD rfl) cr sm FO bO hr (fun σ => passLAt σ) (pa_cons (pe_callTy call_list_of (by rfl) T.n_list (by decide +kernel) (pa_cons (pv 2) pa_nil)) pa_nil)) (nomark _)) (pe_one (pe_cmpR (op_neI Z.eq Z.nf Z.ne Z.ob hr2) (pv 0) (pv 2) (nomark _))))))))))), ?_⟩
    walk_at "wp"
    have hxx := hx
    obtain ⟨dx, t, hxi, ht⟩ := hxx
    refine ⟨_, _, _, _, true, rfl, .own C, .base (.ins hxi dc.cls Z.ic.at_ Z.ic.sp Z.ic.tk Z.ic.mro), kit_self K C, true, rfl, ?_⟩
    rw [if_neg (show ¬ (!true) = true from Bool.false_ne_true)]
    refine ⟨a, ms, rfl, ha, hml, fun u G1 e1 hu => ?_⟩
    refine ⟨fun τ G => τ = [some (.ref x), some (.ref a), some (.ref u), some (.str (reprZ (trimZ ms))), none, none] ∧ Same G1 G, ?_, ?_⟩
    · walk_at "wp"
      refine ⟨⟨_, rfl⟩, ⟨_, hu⟩, ?_⟩
      refine lcw_gen walk_tup (fun i => ((trimZ ms)[i]?).map fun n => V.str ((toString n : String) : Str)) (by rw [List.length_map]; have := hv.1; omega) (fun H' e => Same.sqT e hu) ?_ ?_
      · rintro i z G2 G3 Nx Q' hi hG ⟨rfl, hz⟩ q _
        walk_at "wp"
        rw [List.getElem?_map] at hz
        cases hn : (trimZ ms)[i]? with
        | none =>
          rw [hn] at hz
          cases hz
        | some n =>
          rw [hn] at hz
          cases hz
          have hnm := hv.2 n (List.mem_of_getElem? hn)
          refine ⟨n, rfl, ?_, q _ _ (by rw [hn]; rfl) (Same.refl _)⟩
          have : n = 0 ∨ n = 1 ∨ n = 2 := by omega
          rcases this with rfl | rfl | rfl <;> decide
      · rintro D G hG hD hL
        have e2 : (List.range ((trimZ ms).map V.int).length).filterMap (fun i => ((trimZ ms)[i]?).map fun n => V.str ((toString n : String) : Str)) = ((trimZ ms).map fun n => ((toString n : String) : Str)).map V.str := by
          rw [List.length_map, List.map_map]
          exact filterMap_get (trimZ ms) _
        rw [e2] at hL
        have hj := digit_join hv
        have z1 : ((", " : Str)).length = 2 := by decide +kernel
        have z2 : (("Data(" : Str)).length = 5 := by decide +kernel
        have z3 : ((")" : Str)).length = 1 := by decide +kernel
        have hvl := hv.1
        refine ⟨D, rfl, _, .inl (SqL.of hL), ?_, by rw [z2, sizeLine_eq]; omega, ?_, rfl, hG⟩
        · rw [digit_sum hv.2, List.length_map, z1]
          omega
        · rw [Str.length_append, z2, z3, sizeLine_eq]
          omega
    rintro τ G ⟨rfl, g⟩
    have gg := e1.trans g
    have hxG := gg _ _ hxi
    have htG := Same.sqT gg ht
    have huG := Same.sqT g hu
    have hvl := hv.1
    have hlen : ((trimZ ms).map V.int).length = (trimZ ms).length := List.length_map ..
    walk_at "wp"
    refine ⟨C, dx, _, hxG, dc.cls, dc.n1, _, rfl, _, _, .tup htG (dps_ints _), .tup huG (dps_ints _), shaped_intsT _, shaped_intsT _, _, rfl, ?_⟩
    rw [eqv_intsT, decide_eq_true rfl, if_neg (show ¬ (!true) = true from Bool.false_ne_true)]
    refine ⟨⟨_, _, hxG⟩, x, trimZ ms, rfl, datAt_same gg hx, _, rfl, by omega, by omega, _, .inr huG, rfl, ?_⟩
    rw [hlen, if_pos rfl]
    refine ⟨⟨_, _, hxG⟩, x, trimZ ms, rfl, datAt_same gg hx, hv.1, hv.2, fun G2 e2 => ⟨_, rfl, rfl, ?_⟩⟩
    rw [if_pos rfl]
    have hx2 := datAt_same (gg.trans e2) hx
    have hu2 := Same.sqT e2 huG
    refine ⟨fun τ G => ∃ v, τ = [some (.ref x), some (.ref a), some (.ref u), some (.str (reprZ (trimZ ms))), none, v] ∧ Same G2 G, ?_, ?_⟩
    · walk_at "wp"
      refine ⟨_, .inr hu2, ?_⟩
      rw [hlen]
      refine ⟨by omega, by omega, ?_⟩
      refine loop_it (walk_range (lo := 0)) (fun i τ G => (∃ v, τ = [some (.ref x), some (.ref a), some (.ref u), some (.str (reprZ (trimZ ms))), none, v]) ∧ Same G2 G) ⟨⟨_, rfl⟩, Same.refl _⟩ (fun _ _ _ _ _ => True.intro) ?_ ?_
      · rintro i z τ G3 G3' hi ⟨⟨v, rfl⟩, e3⟩ ⟨rfl, rfl⟩
        walk_at "wp"
        have hx3 := datAt_same e3 hx2
        obtain ⟨dx3, t3, hxi3, _⟩ := id hx3
        refine ⟨⟨_, _, hxi3⟩, x, .int (i : Nat), .int (i : Nat), trimZ ms, rfl, hx3, .int _, (fun z => by cases z), fun j hj => ?_⟩
        cases hj
        refine ⟨fun z => absurd z (by omega), fun _ => ⟨_, .inr (Same.sqT e3 hu2), ?_⟩⟩
        rw [hlen, Int.toNat_natCast]
        refine ite2 (fun c => ?_) fun c => ?_
        · have hil : i < (trimZ ms).length := by omega
          have e1 : (trimZ ms).getD i 0 = (trimZ ms)[i] := by rw [List.getD_eq_getElem?_getD, List.getElem?_eq_getElem hil]; rfl
          refine ⟨_, Same.sqT e3 hu2, .int (trimZ ms)[i], at_of rfl (by rw [List.getElem?_map, List.getElem?_eq_getElem hil]; rfl), rfl, ?_⟩
          rw [e1, if_pos rfl]
          exact ⟨⟨_, rfl⟩, e3⟩
        · have e1 : (trimZ ms).getD i 0 = 0 := by rw [List.getD_eq_getElem?_getD, List.getElem?_eq_none (by omega)]; rfl
          rw [e1, if_pos rfl]
          exact ⟨rfl, ⟨_, rfl⟩, e3⟩
      · rintro τ G3 ⟨⟨v, rfl⟩, e3⟩
        exact ⟨⟨v, rfl⟩, e3⟩
    rintro τ G3 ⟨v, rfl, e3⟩
    walk_at "wp"
    have hu3 := Same.sqT e3 hu2
    have hvv : valsB ((trimZ ms).map PyData.int) = true := valsB_ints hv.1 hv.2
    refine ⟨_, .inr hu3, fun l hl => ⟨.ref l, .list ((trimZ ms).map PyData.int), rfl, .inl (.lst (SqL.of upd_same) (dps_ints _)), (fun z => by cases z), fun ds hds => ?_⟩⟩
    cases hds
    refine ⟨by rw [List.length_map]; omega, (fun z => by rw [hvv] at z; cases z), fun _ G4 y e4 hy => ?_⟩
    rw [map_intOf, trimZ_idem] at hy
    have e5 := (e3.trans (same_new hl)).trans e4
    have hx5 := datAt_same e5 hx2
    obtain ⟨dx5, t5, hxi5, ht5⟩ := id hx5
    obtain ⟨dy, ty, hyi, hty⟩ := id hy
    refine ⟨⟨_, _, hxi5⟩, .inl ⟨y, _, _, rfl, hyi⟩, x, .ref y, trimZ ms, rfl, hx5, .inl ⟨y, trimZ ms, rfl, hy, _, rfl, ?_⟩⟩
    rw [if_pos (decide_eq_true rfl)]
    have hu5 := Same.sqT e5 hu2
    exact ⟨⟨_, _, hxi5⟩, .inr ⟨u, _, rfl, hu5⟩, x, .ref u, trimZ ms, rfl, hx5, .inr ⟨u, _, rfl, hu5, _, rfl, k _ ((gg.trans e2).trans e5)⟩⟩
end
end YY

set_option maxRecDepth 100000
set_option maxHeartbeats 4000000
namespace YY
open PySem PySem.Spec PyProof.Rows L2 XX
local macro_rules | `(tactic| walk_at "wp") => `(tactic| simp only [tPar3, rIndex, tAug, rExt2, tSeq, tNext, tAsg, tPar, gName, tCB, tCons, tNil, tVar, tC, tOp, tUn, rI, rI0, rU, tLst, tTup, tFor_eq, iRng1, iRng2, iList, iTup, tRet, tRetN, tDrop, tIfS, tTest, tB, tAnd, tOr, tNot, tIf, tAndV, tOrV, tNotV, tCall, tBM, tBM0, rIxL, rIxT, rAppend, tLc_eq, gSub, rSetL, rEq, rNe, rMulS, rIxS, tRevT, gTup, gCons, gNil, wipe, tYes, LcEnd, tDisp, tPairs, tChain, tSl, tPart, tNoPart, rSlT, rSlL, rCatT, rCat, rRep, rIsD, V.ty.injEq, iZipB, tDNewK, tXf, wMA, wAs, rLenK, tLenSetS, rReprE, tVeI, tOst, tErr, tMkO, sFld, tFld, rIsE2, tMakeS, rListStr, tDNotIn, tDIn, tDGet, rSetD, gSub, iEnumA, rIxD, iStr, rIn, rEqI, rLenI, tIxI, rSetI, rSortedSet, rEqK, rEqV, tCallS, tDc_eq, tLc2_eq, tMeth, tMethX, tSMeth, tMakeV, tMakeVS, tMakeRS, WE, tOpI, tOpR, tMulD, tMulA, tM1, rRepA, rReprI, rCatA, StX.tMakeR, StX.tStar, tLock, tLockE, iItems, iKeys,
  cxOf_K, cxOf_noxK, L2.start, List.map_cons, List.map_nil, List.length_cons, List.length_nil, Nat.reduceAdd, Nat.reduceSub, List.replicate_succ, List.replicate_zero, List.replicate, List.cons_append, List.nil_append, List.getElem?_cons_zero, List.getElem?_cons_succ, List.set_cons_zero, List.set_cons_succ, List.append_nil,
  Option.some.injEq, V.int.injEq, V.ref.injEq, V.bl.injEq, V.str.injEq, List.cons.injEq, and_true, true_and, exists_eq_left', exists_eq_left, exists_and_left, exists_and_right, exists_const, bool_ite_true, bool_ite_false, dec_ite, ndec_ite, reduceCtorEq, false_or, or_false, false_and, and_false, decide_eq_true_eq, and_assoc, reduceIte, ite_true, ite_false, Int.zero_add])

/-! ### _law_heard -/
abbrev sHeard : Stmt := topS 22
def refD (kind : Str) (d : PyData) : PyData := .list [.str kind, .str d.shown]
def leftOk : PyData → Prop
  | .none => True
  | .bool _ => True
  | .int _ => True
  | .str _ => True
  | _ => False
/-- what is refused, and as what -/
inductive Refs (ns : List Int) : Int → PyData → Str → PyData → Prop
  | add {d : PyData} : lenOk d → addOf ns d = none → Refs ns 0 d "data" d
  | mulN {d : PyData} {way : Int} : (way = 2 ∨ (way = 3 ∧ leftOk d)) → btw d 0 60 = false → Refs ns way d "number" d
  | mulD {d : PyData} {way : Int} : (way = 2 ∨ (way = 3 ∧ leftOk d)) → btw d 0 60 = true → ¬ ns.length * (intOf d).toNat ≤ 60 → Refs ns way d "data" d
  | get {d : PyData} : (isWhole d = false ∨ ∃ i, d = .int i ∧ i < 0) → Refs ns 4 d "number" d
  | of0 {d : PyData} : itemsOf d = none → Refs ns 5 d "data" d
  | of1 {d : PyData} {ds : List PyData} : itemsOf d = some ds → ds.length ≤ 900 → valsB ds = false → Refs ns 5 d "data" (.tuple ds)
theorem none_back {H G : Hp} {p : Addr} (e : Same H G) (h : G p = none) : H p = none := by
  cases q : H p with
  | none => rfl
  | some o =>
    rw [e _ _ q] at h
    cases h
structure Exm2 (K : PySem.W.Frag) (cB cN : Addr) : Prop where
  BB : PySem.W.exmOne K (.ref cB) (.ref cB) = some true
  NB : PySem.W.exmOne K (.ref cN) (.ref cB) = some false
  NN : PySem.W.exmOne K (.ref cN) (.ref cN) = some true
section
variable {P : Program} {w : World} {K : PySem.W.Frag} {mg : Str → Option Value} {base : Heap}
def spHeard (K : PySem.W.Frag) (C : Addr) : Sp := fun vs H Q _ => ∃ (x : Addr) (way : Int) (tv : V) (ns : List Int) (td rd : PyData) (kind : Str), vs = [.int way, .ref x, tv] ∧ DatAt K C H x ns ∧ valI ns ∧ DpE K H tv td ∧ (way = 2 ∨ way = 3 ∨ way = 4 → Dp K H tv td) ∧ Refs ns way td kind rd ∧ Rp rd ∧
  ∀ p G, Same H G → H p = none → Dp K G (.ref p) (refD kind rd) → Q (.ref p) G
theorem scHeard : FnScope ["way", "data", "thing", "e"] ["way", "data", "thing"] (defScope sHeard) := ⟨rfl, rfl, rfl, by decide +kernel, rfl, by decide +kernel, by decide +kernel⟩
theorem c_heard {fI C cB cN : Addr} (D : Def K mg "_law_heard" sHeard ["way", "data", "thing"]) (T : Bl2 mg) (n_repr : mg "repr" = none) (Z : DMeths P w K mg base C cB cN) (EB : ErrC K mg "BadData" cB fI) (EN : ErrC K mg "BadNumber" cN fI) (X2 : Exm2 K cB cN) : FnD P w K mg base CX0 8 "_law_heard" ["way", "data", "thing"] (spHeard K C) := by
  refine D.okG scHeard (fun vs H Q E h => ?_) (fun f' cdv A outer s H vs Q E hgu hr h => ?_)
  · obtain ⟨x, way, tv, ns, td, rd, kind, rfl, _⟩ := h
    rfl
  · obtain ⟨x, way, tv, ns, td, rd, kind, rfl, hx, hv, hd, hd2, hR, hrp, k⟩ := h
    have sc := scHeard
    have hu80 : (A.deeper (envOfC "_law_heard" (defScope sHeard) s.heap.objs.size f' cdv)).units + 80 < cLine := by have := hr.un; omega
    have hr4 : Room 4 _ := hr.mono (by decide)
    have hr6 : Room 6 _ := hr.mono (by decide)
    obtain ⟨mc, pO, gO, gd, cr, sm, FO, bO⟩ := Z.of
    have dc := Z.M.dc
    refine ⟨_, (pss_one (ps_try_mas (i := 3) (n := "e") (Wout := fun _ _ _ _ => False) rfl rfl sc.nd rfl rfl takes0
        (fun W pn xe tkW hp => (pss_cons (ps_if (pt_cmpR op_eq (pv 0) pe_int (nomark _)) (pss_one (ps_ret (pe_opIK (op := .Add) (E := WE W) K rfl Z.add Z.addO.own hr6 (fun σ => passAt tkW σ) (pv 1) (pv 2)))) pss_nil)
          (pss_cons (ps_if (pt_cmpR op_eq (pv 0) pe_int (nomark _)) (pss_one (ps_ret (pe_opRK (op := .Add) (E := WE W) K rfl Z.radd Z.fAdd Z.addO.own.first hr6 (fun σ => passAt tkW σ) (pv 2) (pv 1)))) pss_nil)
          (pss_cons (ps_if (pt_cmpR op_eq (pv 0) pe_int (nomark _)) (pss_one (ps_ret (pe_opIK (op := .Mult) (E := WE W) K rfl Z.mul Z.mulO.own hr6 (fun σ => passAt tkW σ) (pv 1) (pv 2)))) pss_nil)
          (pss_cons (ps_if (pt_cmpR op_eq (pv 0) pe_int (nomark _)) (pss_one (ps_ret (pe_mulAK (E := WE W) K rfl Z.rmul Z.fMul Z.mulO.own.first Z.sInt Z.sBool hr (fun σ => passAt tkW σ) (pv 2) (pv 1)))) pss_nil)
          (pss_one (ps_ret (pe_ifExp (pt_cmpR op_eq (pv 0) pe_int (nomark _)) (pe_ixI (E := WE W) Z.item Z.fi hr4 (fun σ => passAt tkW σ) (pv 1) (pv 2)) (pe_smeth (E := WE W) (pe_glob (v := .ref C) (by rfl) Z.M.gD (by rfl)) cr sm FO bO hr6 (fun σ => passAt tkW σ) (pa_cons (pv 2) pa_nil))))))))))
        (HdsAs.cons ⟨rfl, by decide, .inl EB.g⟩ (fun a oe cls d pn hz hf => pss_one (ps_ret (pe_lst (pa_cons pe_str (pa_cons (pe_callB (call_reprEK K rfl hgu hu80) (by rfl) n_repr (by decide +kernel) (pa_cons (pe_xf EB.xf EB.no hz hf (pv 3)) pa_nil)) pa_nil)))))
        (HdsAs.cons ⟨rfl, by decide, .inl EN.g⟩ (fun a oe cls d pn hz hf => pss_one (ps_ret (pe_lst (pa_cons pe_str (pa_cons (pe_callB (call_reprEK K rfl hgu hu80) (by rfl) n_repr (by decide +kernel) (pa_cons (pe_xf EN.xf EN.no hz hf (pv 3)) pa_nil)) pa_nil)))))
        HdsAs.nil)))), ?_⟩
    walk_at "wp"
    have tell : ∀ (G1 : Hp) (v : V), Same H G1 → DpE K G1 v rd → ∃ d, DpE K G1 v d ∧ Rp d ∧ 2 ≤ sizeLine ∧ ∀ p, G1 p = none → Q (.ref p) (upd G1 p (.lst [V.str kind, V.str d.shown])) := fun G1 v e hj =>
      ⟨rd, hj, hrp, by decide, fun p hp => k p _ (e.trans (same_new hp)) (none_back e hp) (.lst (SqL.of upd_same) (.cons (.str _) (.cons (.str _) .nil)))⟩
    obtain ⟨DD, hDD⟩ : ∃ DD : Ends, DD = { nx := fun x H' => Q V.non H', rt := Q } := ⟨_, rfl⟩
    obtain ⟨tx, htx⟩ : ∃ tx : Str → Addr → Addr → Value → Option Addr → TS, tx = fun kd c a cls d => tRet (tLst (tCons (tC (V.str kd)) (tCons (tCB (rReprE K) (tCons (tXf a cls d c "value" (tVar 3)) tNil)) tNil))) := ⟨_, rfl⟩
    obtain ⟨EW, hEW⟩ : ∃ EW : XK, EW = WE (wAs K (Value.ref cB) 3 (tx "data" cB) (wAs K (Value.ref cN) 3 (tx "number" cN) (fun _ _ _ _ => False) DD) DD) [some (V.int way), some (V.ref x), some tv, none] := ⟨_, rfl⟩
    have eB : kind = "data" → raisesD K cB rd H EW := fun hk G e v s' hv' n => by
      rw [hEW, htx, hDD]
      refine ⟨true, X2.BB, fun _ a ha => ?_, fun h => nomatch h⟩
      walk_at "wp"
      refine ⟨_, upd_same, v, rfl, ?_⟩
      subst hk
      exact tell _ v (s'.trans (same_new n)) (dpE_same (same_new n) hv')
    have eN : kind = "number" → raisesD K cN rd H EW := fun hk G e v s' hv' n => by
      rw [hEW, htx, hDD]
      refine ⟨false, X2.NB, (fun h => nomatch h), fun _ => ⟨true, X2.NN, fun _ a ha => ?_, fun h => nomatch h⟩⟩
      walk_at "wp"
      refine ⟨_, upd_same, v, rfl, ?_⟩
      subst hk
      exact tell _ v (s'.trans (same_new n)) (dpE_same (same_new n) hv')
    rw [htx, hDD] at hEW
    clear tell
    obtain ⟨dx, t, hxi, ht⟩ := id hx
    have hI : ∃ x_1 x_2, H x = some (HO.ins C x_1 x_2) := ⟨_, _, hxi⟩
    cases hR with
    | add h1 h2 =>
      refine ⟨rfl, ?_⟩
      rw [if_pos rfl, ← hEW]
      exact ⟨hI, .inr ⟨_, ty_dpE hd, Z.addO.of td⟩, x, ns, tv, rfl, hx, hv, .inr ⟨td, hd, h1, fun _ => eB rfl, fun ms hms => by rw [h2] at hms; cases hms⟩⟩
    | mulN h1 h2 =>
      rcases h1 with rfl | ⟨rfl, hl⟩
      · refine ⟨rfl, ?_⟩
        rw [if_neg (by decide)]
        refine ⟨rfl, ?_⟩
        rw [if_neg (by decide)]
        refine ⟨rfl, ?_⟩
        rw [if_pos rfl, ← hEW]
        exact ⟨hI, .inr ⟨_, ty_dpE hd, Z.mulO.of td⟩, x, ns, tv, td, rfl, hx, hv, hd2 (.inl rfl), fun _ => eN rfl, fun z => by rw [h2] at z; cases z⟩
      · refine ⟨rfl, ?_⟩
        rw [if_neg (by decide)]
        refine ⟨rfl, ?_⟩
        rw [if_neg (by decide)]
        refine ⟨rfl, ?_⟩
        rw [if_neg (by decide)]
        refine ⟨rfl, ?_⟩
        rw [if_pos rfl, ← hEW]
        have hd3 := hd2 (.inr (.inl rfl))
        refine ⟨hI, ?_, x, ns, tv, td, rfl, hx, hv, hd3, fun _ => eN rfl, fun z => by rw [h2] at z; cases z⟩
        cases hd3 with
        | non => exact .inr ⟨_, ty_dp .non, Z.rmN⟩
        | bl b => exact .inl (.inr ⟨_, rfl⟩)
        | int i => exact .inl (.inl ⟨_, rfl⟩)
        | str z => exact .inr ⟨_, ty_dp (.str z), Z.rmS⟩
        | lst _ _ => exact hl.elim
        | tup _ _ => exact hl.elim
    | mulD h1 h2 h3 =>
      rcases h1 with rfl | ⟨rfl, hl⟩
      · refine ⟨rfl, ?_⟩
        rw [if_neg (by decide)]
        refine ⟨rfl, ?_⟩
        rw [if_neg (by decide)]
        refine ⟨rfl, ?_⟩
        rw [if_pos rfl, ← hEW]
        exact ⟨hI, .inr ⟨_, ty_dpE hd, Z.mulO.of td⟩, x, ns, tv, td, rfl, hx, hv, hd2 (.inl rfl), fun z => (by rw [h2] at z; cases z), fun _ => ⟨fun _ => eB rfl, fun z => absurd z h3⟩⟩
      · refine ⟨rfl, ?_⟩
        rw [if_neg (by decide)]
        refine ⟨rfl, ?_⟩
        rw [if_neg (by decide)]
        refine ⟨rfl, ?_⟩
        rw [if_neg (by decide)]
        refine ⟨rfl, ?_⟩
        rw [if_pos rfl, ← hEW]
        have hd3 := hd2 (.inr (.inl rfl))
        refine ⟨hI, ?_, x, ns, tv, td, rfl, hx, hv, hd3, fun z => (by rw [h2] at z; cases z), fun _ => ⟨fun _ => eB rfl, fun z => absurd z h3⟩⟩
        cases hd3 with
        | int i => exact .inl (.inl ⟨_, rfl⟩)
        | _ => cases h2
    | get h1 =>
      refine ⟨rfl, ?_⟩
      rw [if_neg (by decide)]
      refine ⟨rfl, ?_⟩
      rw [if_neg (by decide)]
      refine ⟨rfl, ?_⟩
      rw [if_neg (by decide)]
      refine ⟨rfl, ?_⟩
      rw [if_neg (by decide)]
      refine ⟨rfl, ?_⟩
      rw [if_pos rfl, ← hEW]
      refine ⟨hI, x, tv, td, ns, rfl, hx, hd2 (.inr (.inr rfl)), fun _ => eN rfl, fun i hi => ⟨fun _ => eN rfl, fun z => ?_⟩⟩
      subst hi
      rcases h1 with h1 | ⟨j, h1, h2⟩
      · cases h1
      · cases h1
        omega
    | of0 h1 =>
      refine ⟨rfl, ?_⟩
      rw [if_neg (by decide)]
      refine ⟨rfl, ?_⟩
      rw [if_neg (by decide)]
      refine ⟨rfl, ?_⟩
      rw [if_neg (by decide)]
      refine ⟨rfl, ?_⟩
      rw [if_neg (by decide)]
      refine ⟨rfl, ?_⟩
      rw [if_neg (by decide), ← hEW]
      exact ⟨tv, td, rfl, hd, fun _ => eB rfl, fun ds hds => by rw [h1] at hds; cases hds⟩
    | of1 h1 h2 h3 =>
      refine ⟨rfl, ?_⟩
      rw [if_neg (by decide)]
      refine ⟨rfl, ?_⟩
      rw [if_neg (by decide)]
      refine ⟨rfl, ?_⟩
      rw [if_neg (by decide)]
      refine ⟨rfl, ?_⟩
      rw [if_neg (by decide)]
      refine ⟨rfl, ?_⟩
      rw [if_neg (by decide), ← hEW]
      refine ⟨tv, td, rfl, hd, fun z => (by rw [h1] at z; cases z), fun ds hds => ?_⟩
      rw [h1] at hds
      cases hds
      exact ⟨h2, fun _ => eB rfl, fun z => by rw [h3] at z; cases z⟩
end
end YY

set_option maxRecDepth 100000
set_option maxHeartbeats 4000000
namespace YY
open PySem PySem.Spec PyProof.Rows L2 XX
local macro_rules | `(tactic| walk_at "wp") => `(tactic| simp only [tPar3, rIndex, tAug, rExt2, tSeq, tNext, tAsg, tPar, gName, tCB, tCons, tNil, tVar, tC, tOp, tUn, rI, rI0, rU, tLst, tTup, tFor_eq, iRng1, iRng2, iList, iTup, tRet, tRetN, tDrop, tIfS, tTest, tB, tAnd, tOr, tNot, tIf, tAndV, tOrV, tNotV, tCall, tBM, tBM0, rIxL, rIxT, rAppend, tLc_eq, gSub, rSetL, rEq, rNe, rMulS, rIxS, tRevT, gTup, gCons, gNil, wipe, tYes, LcEnd, tDisp, tPairs, tChain, tSl, tPart, tNoPart, rSlT, rSlL, rCatT, rCat, rRep, rIsD, V.ty.injEq, iZipB, tDNewK, tXf, wMA, wAs, rLenK, tLenSetS, rReprE, tVeI, tOst, tErr, tMkO, sFld, tFld, rIsE2, tMakeS, rListStr, tDNotIn, tDIn, tDGet, rSetD, gSub, iEnumA, rIxD, iStr, rIn, rEqI, rLenI, tIxI, rSetI, rSortedSet, rEqK, rEqV, tCallS, tDc_eq, tLc2_eq, tMeth, tMethX, tSMeth, tMakeV, tMakeVS, tMakeRS, WE, tOpI, tOpR, tMulD, tMulA, tM1, rRepA, rReprI, rCatA, StX.tMakeR, StX.tStar, tLock, tLockE, iItems, iKeys,
  cxOf_K, cxOf_noxK, L2.start, List.map_cons, List.map_nil, List.length_cons, List.length_nil, Nat.reduceAdd, Nat.reduceSub, List.replicate_succ, List.replicate_zero, List.replicate, List.cons_append, List.nil_append, List.getElem?_cons_zero, List.getElem?_cons_succ, List.set_cons_zero, List.set_cons_succ, List.append_nil,
  Option.some.injEq, V.int.injEq, V.ref.injEq, V.bl.injEq, V.str.injEq, List.cons.injEq, and_true, true_and, exists_eq_left', exists_eq_left, exists_and_left, exists_and_right, exists_const, bool_ite_true, bool_ite_false, dec_ite, ndec_ite, reduceCtorEq, false_or, or_false, false_and, and_false, decide_eq_true_eq, and_assoc, reduceIte, ite_true, ite_false, Int.zero_add])

/-! ### _law_sums_right -/
abbrev sSums : Stmt := topS 23
theorem dropW_app (p : Int → Bool) : ∀ l m : List Int, ((l.dropWhile p) ++ m).dropWhile p = (l ++ m).dropWhile p
  | [], _ => rfl
  | a :: l, m => by
    by_cases c : p a = true
    · rw [List.dropWhile_cons, if_pos c, List.cons_append, List.dropWhile_cons, if_pos c]
      exact dropW_app p l m
    · rw [List.dropWhile_cons, if_neg c]
theorem trimZ_app (a b : List Int) : trimZ (a ++ trimZ b) = trimZ (a ++ b) := by
  unfold trimZ
  rw [List.reverse_append, List.reverse_reverse, dropW_app, List.reverse_append]
theorem valI_trim {ns : List Int} (h : valI ns) : valI (trimZ ns) := ⟨Nat.le_trans (trimZ_len ns) h.1, fun n hn => h.2 n (trimZ_mem hn)⟩
theorem valI_app {ns ms : List Int} (h : valI ns) (g : valI ms) (hl : ns.length + ms.length ≤ 60) : valI (ns ++ ms) := ⟨by rw [List.length_append]; exact hl, fun n hn => by
  rcases List.mem_append.mp hn with z | z
  · exact h.2 n z
  · exact g.2 n z⟩
theorem valsOf_list {ns : List Int} (h : valI ns) : valsOf (.list (ns.map PyData.int)) = some ns := by
  show (if valsB (ns.map PyData.int) = true then some ((ns.map PyData.int).map intOf) else none) = some ns
  rw [if_pos (valsB_ints h.1 h.2), map_intOf]
theorem valsOf_tup {ns : List Int} (h : valI ns) : valsOf (.tuple (ns.map PyData.int)) = some ns := by
  show (if valsB (ns.map PyData.int) = true then some ((ns.map PyData.int).map intOf) else none) = some ns
  rw [if_pos (valsB_ints h.1 h.2), map_intOf]
theorem addOf_of {ns ms : List Int} {d : PyData} (h : valsOf d = some ms) (hl : ns.length + ms.length ≤ 60) : addOf ns d = some (trimZ (ns ++ ms)) := by
  unfold addOf
  rw [h]
  exact if_pos (by rw [List.length_append]; exact hl)
theorem raddOf_of {ns ms : List Int} {d : PyData} (h : valsOf d = some ms) (hl : ns.length + ms.length ≤ 60) : raddOf ns d = some (trimZ (trimZ ms ++ ns)) := by
  unfold raddOf
  rw [h]
  have := trimZ_len ms
  exact if_pos (by rw [List.length_append]; omega)
theorem lenOk_ints (ns : List Int) (h : ns.length ≤ 60) : lenOk (.list (ns.map PyData.int)) ∧ lenOk (.tuple (ns.map PyData.int)) := by
  constructor <;>
  · intro ds e
    cases e
    rw [List.length_map]
    omega
section
variable {P : Program} {w : World} {K : PySem.W.Frag} {mg : Str → Option Value} {base : Heap}
def spSums (K : PySem.W.Frag) : Sp := fun vs H Q _ => ∃ (a b : Addr) (fs ss : List Int), vs = [.ref a, .ref b] ∧ SqL K H a (fs.map V.int) ∧ SqL K H b (ss.map V.int) ∧ valI fs ∧ valI ss ∧ fs.length ≤ 30 ∧ ss.length ≤ 30 ∧ ∀ G, Same H G → Q (.bl true) G
theorem scSums : FnScope ["first", "second", "one", "other", "due"] ["first", "second"] (defScope sSums) := ⟨rfl, rfl, rfl, by decide +kernel, rfl, by decide +kernel, by decide +kernel⟩
theorem c_sums {C cB cN : Addr} (D : Def K mg "_law_sums_right" sSums ["first", "second"]) (T : Bl2 mg) (Z : DMeths P w K mg base C cB cN)
    (cT : FnC P w K mg base CX0 1 "_law_trimmed" ["some"] (spTrimmed K)) (cS : FnC P w K mg base CX0 7 "_law_shows" ["data", "some"] (spShows K C)) : FnC P w K mg base CX0 8 "_law_sums_right" ["first", "second"] (spSums K) := by
  refine D.ok scSums (fun vs H Q E h => ?_) (fun f cdv A outer s H vs Q E hr h => ?_)
  · obtain ⟨a, b, fs, ss, rfl, _⟩ := h
    rfl
  · obtain ⟨a, b, fs, ss, rfl, ha, hb, vf, vs', lf, ls, k⟩ := h
    have sc := scSums
    have hr1 : Room 1 _ := hr.mono (by decide)
    have hr6 : Room 6 _ := hr.mono (by decide)
    obtain ⟨mc, pO, gO, gd, cr, sm, FO, bO⟩ := Z.of
    have dc := Z.M.dc
    refine ⟨_, (pss_cut (ps_par (i := 2) (j := 3) (by rfl) sc.nd rfl rfl (by decide) rfl rfl (pa_cons (pe_smeth (E := fun _ => E0) (pe_glob (v := .ref C) rfl Z.M.gD rfl) cr sm FO bO hr6 (fun σ => passLAt σ) (pa_cons (pv 0) pa_nil)) (pa_cons (pe_smeth (E := fun _ => E0) (pe_glob (v := .ref C) rfl Z.M.gD rfl) cr sm FO bO hr6 (fun σ => passLAt σ) (pa_cons (pe_callTy call_tuple_of (by rfl) T.n_tuple (by decide +kernel) (pa_cons (pv 1) pa_nil)) pa_nil)) pa_nil)) (by rfl))
      (pss_cut (ps_set (i := 4) sc.nd rfl (Or.inl rfl) (pe_op op_cat (pe_callTy call_list_of (by rfl) T.n_list (by decide +kernel) (pa_cons (pe_c cT hr1 rfl (pa_cons (pv 0) pa_nil)) pa_nil)) (pe_callTy call_list_of (by rfl) T.n_list (by decide +kernel) (pa_cons (pv 1) pa_nil))))
      (pss_cut (ps_if (PW.pt (pw_or (pt_not (pt_val (pe_c cS hr rfl (pa_cons (pe_opI (op := .Add) (E := fun _ => E0) Z.add Z.addO.own hr6 (fun σ => passLAt σ) (pv 2) (pv 3)) (pa_cons (pv 4) pa_nil))))) (pw_or1 (pt_not (pt_val (pe_c cS hr rfl (pa_cons (pe_opI (op := .Add) (E := fun _ => E0) Z.add Z.addO.own hr6 (fun σ => passLAt σ) (pv 2) (pe_callTy call_list_of (by rfl) T.n_list (by decide +kernel) (pa_cons (pv 1) pa_nil))) (pa_cons (pv 4) pa_nil)))))))) (pss_one (ps_ret pe_bl)) pss_nil)
      (pss_cut (ps_if (PW.pt (pw_or (pt_not (pt_val (pe_c cS hr rfl (pa_cons (pe_opI (op := .Add) (E := fun _ => E0) Z.add Z.addO.own hr6 (fun σ => passLAt σ) (pv 2) (pe_callTy call_tuple_of (by rfl) T.n_tuple (by decide +kernel) (pa_cons (pv 1) pa_nil))) (pa_cons (pv 4) pa_nil))))) (pw_or1 (pt_not (pt_val (pe_c cS hr rfl (pa_cons (pe_opR (op := .Add) (E := fun _ => E0) Z.radd Z.fAdd Z.addO.own.first hr6 (fun σ => passLAt σ) (pe_callTy call_list_of (by rfl) T.n_list (by decide +kernel) (pa_cons (pv 0) pa_nil)) (pv 3)) (pa_cons (pv 4) pa_nil)))))))) (pss_one (ps_ret pe_bl)) pss_nil)
      (pss_one (ps_ret (pe_c cS hr rfl (pa_cons (pe_opR (op := .Add) (E := fun _ => E0) Z.radd Z.fAdd Z.addO.own.first hr6 (fun σ => passLAt σ) (pe_callTy call_tuple_of (by rfl) T.n_tuple (by decide +kernel) (pa_cons (pv 0) pa_nil)) (pv 3)) (pa_cons (pv 4) pa_nil))))))))), ?_⟩
    have l1 := trimZ_len fs
    have l2 := trimZ_len ss
    have v1 := valI_trim vf
    have v2 := valI_trim vs'
    have hvf : valsB (fs.map PyData.int) = true := valsB_ints vf.1 vf.2
    have hvs : valsB (ss.map PyData.int) = true := valsB_ints vs'.1 vs'.2
    refine ⟨fun τ G => ∃ x y, τ = [some (.ref a), some (.ref b), some (.ref x), some (.ref y), none] ∧ Same H G ∧ DatAt K C G x (trimZ fs) ∧ DatAt K C G y (trimZ ss), ?_, ?_⟩
    · walk_at "wp"
      refine ⟨.ref a, .list (fs.map PyData.int), rfl, .inl (.lst ha (dps_ints _)), (fun z => by cases z), fun ds hds => ?_⟩
      cases hds
      refine ⟨by rw [List.length_map]; omega, (fun z => by rw [hvf] at z; cases z), fun _ G x e hx => ?_⟩
      rw [map_intOf] at hx
      have hb2 := Same.sqL e hb
      refine ⟨_, .inl ⟨hb2, fun q hq => ?_⟩⟩
      refine ⟨.ref q, .tuple (ss.map PyData.int), rfl, .inl (.tup (SqT.of upd_same) (dps_ints _)), (fun z => by cases z), fun ds hds => ?_⟩
      cases hds
      have e2 := same_new (o := .tup (ss.map V.int)) hq
      refine ⟨by rw [List.length_map]; omega, (fun z => by rw [hvs] at z; cases z), fun _ G2 y e3 hy => ?_⟩
      rw [map_intOf] at hy
      exact ⟨x, rfl, y, rfl, (e.trans e2).trans e3, datAt_same (e2.trans e3) hx, hy⟩
    rintro τ G ⟨x, y, rfl, g, hx, hy⟩
    refine ⟨fun τ G2 => ∃ u, τ = [some (.ref a), some (.ref b), some (.ref x), some (.ref y), some (.ref u)] ∧ Same G G2 ∧ SqL K G2 u ((trimZ fs ++ ss).map V.int), ?_, ?_⟩
    · walk_at "wp"
      refine ⟨a, fs, rfl, .inl (Same.sqL g ha), by omega, fun t G2 e ht => ⟨t, rfl, _, .inr ht, fun l1 hl1 => ?_⟩⟩
      have e1 := same_new (o := .lst ((trimZ fs).map V.int)) hl1
      refine ⟨_, .inl (Same.sqL e1 (Same.sqL e (Same.sqL g hb))), fun l2 hl2 => ?_⟩
      have e2 := same_new (o := .lst (ss.map V.int)) hl2
      refine ⟨_, e2 _ _ upd_same, _, upd_same, by rw [List.length_map, List.length_map, sizeLine_eq]; omega, fun q hq => ⟨((e.trans e1).trans e2).trans (same_new hq), ?_⟩⟩
      rw [List.map_append]
      exact SqL.of upd_same
    rintro τ G2 ⟨u, rfl, g2, hu⟩
    have g12 := g.trans g2
    have hxx := datAt_same g2 hx
    have hyy := datAt_same g2 hy
    have lL : (trimZ fs ++ ss).length ≤ 900 := by rw [List.length_append]; omega
    have vL : valI (trimZ (trimZ fs ++ ss)) := valI_trim (valI_app v1 vs' (by omega))
    obtain ⟨dx, tx, hxi, _⟩ := id hxx
    obtain ⟨dy, ty, hyi, _⟩ := id hyy
    -- what the two sides tell
    have shw : ∀ (G : Hp) (z : Addr) (Q' : VK) (F : XK), Same G2 G → DatAt K C G z (trimZ (trimZ fs ++ ss)) → (∀ G', Same G G' → Q' (.bl true) G') → spShows K C [V.ref z, V.ref u] G Q' F := fun G z Q' F e hz q =>
      ⟨z, u, _, trimZ fs ++ ss, rfl, hz, .inl (Same.sqL e hu), rfl, lL, vL, q⟩
    have addL : ∀ (G : Hp) (l : Addr) (Q' : VK) (F : XK), Same G2 G → SqL K G l (ss.map V.int) → dataQ K C (trimZ (trimZ fs ++ ss)) G Q' → spAddD K C cB [V.ref x, V.ref l] G Q' F := fun G l Q' F e hl q =>
      ⟨x, trimZ fs, _, rfl, datAt_same e hxx, v1, .inr ⟨.list (ss.map PyData.int), .inl (.lst hl (dps_ints _)), (lenOk_ints ss vs'.1).1, (fun z => by rw [addOf_of (valsOf_list vs') (by omega)] at z; cases z), fun ms hms => by rw [addOf_of (valsOf_list vs') (by omega)] at hms; cases hms; exact q⟩⟩
    have addT : ∀ (G : Hp) (l : Addr) (Q' : VK) (F : XK), Same G2 G → SqT K G l (ss.map V.int) → dataQ K C (trimZ (trimZ fs ++ ss)) G Q' → spAddD K C cB [V.ref x, V.ref l] G Q' F := fun G l Q' F e hl q =>
      ⟨x, trimZ fs, _, rfl, datAt_same e hxx, v1, .inr ⟨.tuple (ss.map PyData.int), .inl (.tup hl (dps_ints _)), (lenOk_ints ss vs'.1).2, (fun z => by rw [addOf_of (valsOf_tup vs') (by omega)] at z; cases z), fun ms hms => by rw [addOf_of (valsOf_tup vs') (by omega)] at hms; cases hms; exact q⟩⟩
    have eR : trimZ (trimZ fs ++ trimZ ss) = trimZ (trimZ fs ++ ss) := trimZ_app _ _
    have raddL : ∀ (G : Hp) (l : Addr) (Q' : VK) (F : XK), Same G2 G → SqL K G l (fs.map V.int) → dataQ K C (trimZ (trimZ fs ++ ss)) G Q' → spRaddD K C cB [V.ref y, V.ref l] G Q' F := fun G l Q' F e hl q =>
      ⟨y, trimZ ss, _, .list (fs.map PyData.int), rfl, datAt_same e hyy, v2, .inl (.lst hl (dps_ints _)), (lenOk_ints fs vf.1).1, (fun z => by rw [raddOf_of (valsOf_list vf) (by omega)] at z; cases z), fun ms hms => by rw [raddOf_of (valsOf_list vf) (by omega)] at hms; cases hms; rw [eR]; exact q⟩
    have raddT : ∀ (G : Hp) (l : Addr) (Q' : VK) (F : XK), Same G2 G → SqT K G l (fs.map V.int) → dataQ K C (trimZ (trimZ fs ++ ss)) G Q' → spRaddD K C cB [V.ref y, V.ref l] G Q' F := fun G l Q' F e hl q =>
      ⟨y, trimZ ss, _, .tuple (fs.map PyData.int), rfl, datAt_same e hyy, v2, .inl (.tup hl (dps_ints _)), (lenOk_ints fs vf.1).2, (fun z => by rw [raddOf_of (valsOf_tup vf) (by omega)] at z; cases z), fun ms hms => by rw [raddOf_of (valsOf_tup vf) (by omega)] at hms; cases hms; rw [eR]; exact q⟩
    refine ⟨fun τ G3 => τ = [some (.ref a), some (.ref b), some (.ref x), some (.ref y), some (.ref u)] ∧ Same G2 G3, ?_, ?_⟩
    · walk_at "wp"
      refine ⟨⟨_, _, hxi⟩, .inl ⟨_, _, hyi⟩, x, trimZ fs, _, rfl, hxx, v1, .inl ⟨y, trimZ ss, rfl, hyy, v2, by omega, fun G3 z e3 hz => shw G3 z _ _ e3 (by rw [← eR]; exact hz) fun G4 e4 => ⟨true, rfl, ?_⟩⟩⟩
      rw [if_neg (show ¬ (!true) = true from Bool.false_ne_true)]
      have e24 := e3.trans e4
      refine ⟨_, .inl (Same.sqL (g12.trans e24) hb), fun l hl => ?_⟩
      have e5 := same_new (o := .lst (ss.map V.int)) hl
      refine ⟨⟨_, _, (e24.trans e5) _ _ hxi⟩, .inr ⟨_, ty_dp (.lst (SqL.of upd_same) (dps_ints ss)), Z.addO.of _⟩, addL _ l _ _ (e24.trans e5) (SqL.of upd_same) fun G6 z e6 hz => shw G6 z _ _ ((e24.trans e5).trans e6) hz fun G7 e7 => ⟨true, rfl, ?_⟩⟩
      rw [if_neg (show ¬ (!true) = true from Bool.false_ne_true)]
      exact ((e24.trans e5).trans e6).trans e7
    rintro τ G3 ⟨rfl, g3⟩
    refine ⟨fun τ G4 => τ = [some (.ref a), some (.ref b), some (.ref x), some (.ref y), some (.ref u)] ∧ Same G2 G4, ?_, ?_⟩
    · walk_at "wp"
      refine ⟨_, .inl ⟨Same.sqL (g12.trans g3) hb, fun l hl => ?_⟩⟩
      have e5 := same_new (o := .tup (ss.map V.int)) hl
      refine ⟨⟨_, _, (g3.trans e5) _ _ hxi⟩, .inr ⟨_, ty_dp (.tup (SqT.of upd_same) (dps_ints ss)), Z.addO.of _⟩, addT _ l _ _ (g3.trans e5) (SqT.of upd_same) fun G6 z e6 hz => shw G6 z _ _ ((g3.trans e5).trans e6) hz fun G7 e7 => ⟨true, rfl, ?_⟩⟩
      rw [if_neg (show ¬ (!true) = true from Bool.false_ne_true)]
      have e27 := ((g3.trans e5).trans e6).trans e7
      refine ⟨_, .inl (Same.sqL (g12.trans e27) ha), fun l2 hl2 => ?_⟩
      have e8 := same_new (o := .lst (fs.map V.int)) hl2
      refine ⟨⟨_, _, (e27.trans e8) _ _ hyi⟩, ⟨_, ty_dp (.lst (SqL.of upd_same) (dps_ints fs)), Z.raL⟩, raddL _ l2 _ _ (e27.trans e8) (SqL.of upd_same) fun G9 z e9 hz => shw G9 z _ _ ((e27.trans e8).trans e9) hz fun G10 e10 => ⟨true, rfl, ?_⟩⟩
      rw [if_neg (show ¬ (!true) = true from Bool.false_ne_true)]
      exact ((e27.trans e8).trans e9).trans e10
    rintro τ G4 ⟨rfl, g4⟩
    walk_at "wp"
    refine ⟨_, .inl ⟨Same.sqL (g12.trans g4) ha, fun l hl => ?_⟩⟩
    have e5 := same_new (o := .tup (fs.map V.int)) hl
    exact ⟨⟨_, _, (g4.trans e5) _ _ hyi⟩, ⟨_, ty_dp (.tup (SqT.of upd_same) (dps_ints fs)), Z.raT⟩, raddT _ l _ _ (g4.trans e5) (SqT.of upd_same) fun G6 z e6 hz => shw G6 z _ _ ((g4.trans e5).trans e6) hz fun G7 e7 => k G7 ((g12.trans ((g4.trans e5).trans e6)).trans e7)⟩
end
end YY

set_option maxRecDepth 100000
set_option maxHeartbeats 4000000
namespace PySem.SeqAt
open AutoSeq1 (wpAny_loadPart')
open MeetsSeq MeetsSeq2 MeetsSeq3 SeqRoads2
/-! ### != of lists whose items are equal, one by one -/
section
variable {prog : Program} {w : World} {x y : Addr} {us ws : Array Value} {m1 m2 : Nat} {d1 d2 : Option Addr} {s1 s2 : Array (Option Value)}
def ListNe (prog : Program) (w : World) (x y : Addr) (us ws : Array Value) (m1 m2 : Nat) (d1 d2 : Option Addr) (s1 s2 : Array (Option Value)) (A : Around) (R : Result → Shared → Prop) (s : Shared) : Prop :=
  s.heap.get? x = some ⟨.type "list", d1, .seq us m1, s1⟩ ∧ s.heap.get? y = some ⟨.type "list", d2, .seq ws m2, s2⟩ ∧ (∀ j (a : j < us.size) (b : j < ws.size), EqP prog w A.in1 s us[j] ws[j] true) ∧ R (.ok (.ret (.bool false))) s
theorem neP_loop (hz : us.size = ws.size) (k : Nat) : ∀ i : Nat, us.size - i = k → MeetsIn prog w (Builtin.«list.__eq__.loop» ⟨[.ref x, .ref y, rawInt i, rawInt 3], []⟩) (ListNe prog w x y us ws m1 m2 d1 d2 s1 s2) := by
  induction k with
  | zero =>
    intro i hi A R s h
    obtain ⟨hp, g, d, tk, os⟩ := s
    obtain ⟨hx, hy, he, q⟩ := h
    wp_walk using wpAny_loadPart' hx, wpAny_loadPart' hy
    have e1 : us[((i : Nat) : Int).toNat]? = none := Array.getElem?_eq_none (by rw [Int.toNat_natCast]; omega)
    have e2 : ws[((i : Nat) : Int).toNat]? = none := Array.getElem?_eq_none (by rw [Int.toNat_natCast]; omega)
    rw [e1, e2]
    wp_walk using wpAny_loadPart' hx, wpAny_loadPart' hy
    have e3 : (us.size != ws.size) = false := by rw [hz, bne_self_eq_false]
    show R (.ok (.ret (.bool (us.size != ws.size)))) _
    rw [e3]
    exact q
  | succ k ih =>
    intro i hi A R s h
    obtain ⟨hp, g, d, tk, os⟩ := s
    obtain ⟨hx, hy, he, q⟩ := h
    wp_walk using wpAny_loadPart' hx, wpAny_loadPart' hy
    have l1 : i < us.size := by omega
    have l2 : i < ws.size := by omega
    have e1 : us[((i : Nat) : Int).toNat]? = some us[i] := by rw [Int.toNat_natCast]; exact Array.getElem?_eq_getElem l1
    have e2 : ws[((i : Nat) : Int).toNat]? = some ws[i] := by rw [Int.toNat_natCast]; exact Array.getElem?_eq_getElem l2
    rw [e1, e2]
    refine wpAny_bind (he i l1 l2 _ _ ?_)
    wp_walk
    have e3 : ((i : Int) + 1) = ((i + 1 : Nat) : Int) := rfl
    rw [e3]
    refine ⟨plainId_quiet plain_eq_loop _, codeAny_builtin entry_eq_loop ?_⟩
    rw [Around.under_plainId plain_eq_loop _]
    exact ih (i + 1) (by omega) A R _ ⟨hx, hy, he, q⟩
theorem neP_list (hz : us.size = ws.size) : MeetsIn prog w (Builtin.«list.__ne__» ⟨[.ref x, .ref y], []⟩) (ListNe prog w x y us ws m1 m2 d1 d2 s1 s2) := by
  intro A R s h
  obtain ⟨hp, g, d, tk, os⟩ := s
  obtain ⟨hx, hy, he, q⟩ := h
  have f3 := AutoSeq1.sub_list_list
  have hne : ¬ (us.size != ws.size) = true := by rw [hz, bne_self_eq_false]; exact Bool.false_ne_true
  wp_walk using wpAny_loadPart' hx, wpAny_loadPart' hy
  refine ⟨plainId_quiet plain_eq_loop _, codeAny_builtin entry_eq_loop ?_⟩
  rw [Around.under_plainId plain_eq_loop _]
  exact neP_loop hz _ 0 rfl A R _ ⟨hx, hy, he, q⟩
end
theorem neP_lists {prog : Program} {w : World} {A : Around} {s : Shared} {x y : Addr} {us ws : Array Value} {E Q : Value → Shared → Prop} (hx : s.heap.IsList x us) (hy : s.heap.IsList y ws) (hz : us.size = ws.size) (hu : A.units < cLine)
    (he : ∀ j (a : j < us.size) (b : j < ws.size), EqP prog w A.in1 s us[j] ws[j] true) (q : Q (.bool false) s) : wpAny (model prog w) A (richCompare .NotEq (.ref x) (.ref y)) Q E s := by
  obtain ⟨⟨c1, d1, k1, s1⟩, o1, t1, m1, e1⟩ := id hx
  obtain ⟨⟨c2, d2, k2, s2⟩, o2, t2, m2, e2⟩ := id hy
  simp only at t1 e1 t2 e2
  subst t1 e1 t2 e2
  have ta : s.TypeIs (.ref x) "list" := ⟨_, o1, rfl⟩
  have tb : s.TypeIs (.ref y) "list" := ⟨_, o2, rfl⟩
  refine wpAny_richCompare_same_room (op := .NotEq) ta tb F.slot_list_ne (call_meetsIn F.slot_list_ne ta F.entry_list_ne (F.args_list_ne_2 _ _) (neP_list hz) ⟨o1, o2, he, ?_⟩) hu
  exact ⟨(fun z => nomatch z), q⟩
end PySem.SeqAt
namespace XX
open PySem PySem.Spec PyProof.Rows L2
/-- != of two lists of equal items of nesting below n: texts, numbers, lists and dicts -/
def rNeV (K : PySem.W.Frag) : R2 := fun x y H Q => ∃ (n : Nat) (a b : Addr) (xs ys : List V), n ≤ 60 ∧ x = .ref a ∧ y = .ref b ∧ SqL K H a xs ∧ SqL K H b ys ∧ Paired (EqV K H n) xs ys ∧ Q (.bl false) H
theorem op_neV {X : Cx} (hu : X.A.units + 64 < cLine) : OpR X (compareOp .NotEq) (rNeV X.K) := by
  intro pins s σ H x y v u Q I rx ry h
  obtain ⟨n, a, b, xs, ys, hn, rfl, rfl, ha, hb, hp, q⟩ := h
  cases (show v = Value.ref a from rx)
  cases (show u = Value.ref b from ry)
  obtain ⟨us, r1, p1, _⟩ := I.list ha
  obtain ⟨ws, r2, p2, _⟩ := I.list hb
  have hz : us.toArray.size = ws.toArray.size := by
    rw [List.size_toArray, List.size_toArray, ← r1.length, ← r2.length]
    exact Paired.length hp
  refine SeqAt.neP_lists p1.isList p2.isList hz (by omega) (fun j h1 h2 => ?_) ⟨.bl false, H, I, rfl, q⟩
  have k := items_run (fun x y v u e r r' => eqV_run I n X.A.in1 (by show X.A.units + 1 + n < cLine; omega) x y v u e r r') hp r1 r2 j (by simpa using h1) (by simpa using h2)
  simpa using k
theorem op_neVK {X : Cx} (K : PySem.W.Frag) (e : X.K = K) (hu : X.A.units + 64 < cLine) : OpR X (compareOp .NotEq) (rNeV K) := by
  subst e
  exact op_neV hu
end XX

set_option maxRecDepth 100000
set_option maxHeartbeats 4000000
namespace XX
open PySem PySem.Spec PyProof.Rows L2
/-! ### in comprehensions: rules that want K told -/
theorem op_neDK {X : Cx} (K : PySem.W.Frag) (e : X.K = K) (hu : X.A.units + 64 < cLine) : OpR X (compareOp .NotEq) (rNeD K) := by
  subst e
  exact op_neD hu
theorem op_eqDK {X : Cx} (K : PySem.W.Frag) (e : X.K = K) (hu : X.A.units + 64 < cLine) : OpR X (compareOp .Eq) (rEqD K) := by
  subst e
  exact op_eqD hu
/-- isinstance of data, or of an empty dict -/
def rIsE (T : String) (K : PySem.W.Frag) : List V → Hp → VK → Prop := fun xs H Q => ∃ (x : V) (d : PyData), xs = [x, .ty T] ∧ DpE K H x d ∧ Q (.bl (isTy (tyOf d) T)) H
theorem call_isE {X : Cx} {T : String} (hT : knownTy T) : CallR X (.builtin "isinstance") (rIsE T X.K) := CallR.imp call_isi fun xs H Q ⟨x, d, e, h, q⟩ => ⟨x, .ty T, _, _, _, e, .ty T, ty_dpE h, kit_is d hT, q⟩
end XX

set_option maxRecDepth 100000
set_option maxHeartbeats 4000000
namespace YY
open PySem PySem.Spec PyProof.Rows L2 XX
local macro_rules | `(tactic| walk_at "wp") => `(tactic| simp only [tPar3, rIndex, tAug, rExt2, tSeq, tNext, tAsg, tPar, gName, tCB, tCons, tNil, tVar, tC, tOp, tUn, rI, rI0, rU, tLst, tTup, tFor_eq, iRng1, iRng2, iList, iTup, tRet, tRetN, tDrop, tIfS, tTest, tB, tAnd, tOr, tNot, tIf, tAndV, tOrV, tNotV, tCall, tBM, tBM0, rIxL, rIxT, rAppend, tLc_eq, gSub, rSetL, rEq, rNe, rMulS, rIxS, tRevT, gTup, gCons, gNil, wipe, tYes, LcEnd, tDisp, tPairs, tChain, tSl, tPart, tNoPart, rSlT, rSlL, rCatT, rCat, rRep, rIsD, V.ty.injEq, iZipB, tDNewK, tXf, wMA, wAs, rLenK, tLenSetS, rReprE, tVeI, tOst, tErr, tMkO, sFld, tFld, rIsE2, tMakeS, rListStr, tDNotIn, tDIn, tDGet, rSetD, gSub, iEnumA, rIxD, iStr, rIn, rEqI, rLenI, tIxI, rSetI, rSortedSet, rEqK, rEqV, tCallS, tDc_eq, tLc2_eq, tMeth, tMethX, tSMeth, tMakeV, tMakeVS, tMakeRS, WE, tOpI, tOpR, tMulD, tMulA, tM1, StX.tMakeR, rRepA, rReprI, rIsE, rCatA, StX.tMakeR, StX.tStar, tLock, tLockE, iItems, iKeys,
  cxOf_K, cxOf_noxK, L2.start, List.map_cons, List.map_nil, List.length_cons, List.length_nil, Nat.reduceAdd, Nat.reduceSub, List.replicate_succ, List.replicate_zero, List.replicate, List.cons_append, List.nil_append, List.getElem?_cons_zero, List.getElem?_cons_succ, List.set_cons_zero, List.set_cons_succ, List.append_nil,
  Option.some.injEq, V.int.injEq, V.ref.injEq, V.bl.injEq, V.str.injEq, List.cons.injEq, and_true, true_and, exists_eq_left', exists_eq_left, exists_and_left, exists_and_right, exists_const, bool_ite_true, bool_ite_false, dec_ite, ndec_ite, reduceCtorEq, false_or, or_false, false_and, and_false, decide_eq_true_eq, and_assoc, reduceIte, ite_true, ite_false, Int.zero_add])

/-! ### _law_refused -/
abbrev sRefused : Stmt := topS 24
def oddD : List PyData := [.none, .int 5, .str "01", .list [.int 3], .tuple [.int 0, .bool true], .list [.int 0, .none], .dict [], .list (List.replicate 61 (.int 0))]
def timesD : List PyData := [.int (-1), .int 61, .none, .bool true, .str "2"]
def atD : List PyData := [.int (-1), .none, .bool true, .str "0"]
inductive DpEs (K : PySem.W.Frag) (H : Hp) : List V → List PyData → Prop
  | nil : DpEs K H [] []
  | cons {v : V} {d : PyData} {vs : List V} {ds : List PyData} : DpE K H v d → DpEs K H vs ds → DpEs K H (v :: vs) (d :: ds)
theorem DpEs.same {K : PySem.W.Frag} {H G : Hp} (e : Same H G) : ∀ {vs : List V} {ds : List PyData}, DpEs K H vs ds → DpEs K G vs ds
  | _, _, .nil => .nil
  | _, _, .cons h t => .cons (dpE_same e h) (t.same e)
theorem DpEs.len {K : PySem.W.Frag} {H : Hp} : ∀ {vs : List V} {ds : List PyData}, DpEs K H vs ds → vs.length = ds.length
  | _, _, .nil => rfl
  | _, _, .cons _ t => congrArg Nat.succ t.len
theorem DpEs.get {K : PySem.W.Frag} {H : Hp} : ∀ {vs : List V} {ds : List PyData} {i : Nat} {v : V}, DpEs K H vs ds → vs[i]? = some v → ∃ d, ds[i]? = some d ∧ DpE K H v d
  | _, _, 0, _, .cons h _, e => by
    cases e
    exact ⟨_, rfl, h⟩
  | _, _, _ + 1, _, .cons _ t, e => t.get e
theorem odd_rp : ∀ d ∈ oddD, Rp d := fun d hd => by
  have h : ∀ d ∈ oddD, (d.showable && (decide (d.depth ≤ 64) && decide (d.shown.length ≤ 1000))) = true := by decide +kernel
  have z := h d hd
  rw [Bool.and_eq_true, Bool.and_eq_true, decide_eq_true_eq, decide_eq_true_eq] at z
  exact ⟨z.1, z.2.1, by rw [sizeLine_eq]; omega⟩
/-- what Data.of tells of it -/
def ofD (d : PyData) : PyData := match itemsOf d with
  | some ds => .tuple ds
  | none => d
theorem odd_of (ns : List Int) : ∀ d ∈ oddD, Refs ns 5 d "data" (ofD d) := fun d hd => by
  have h : ∀ d ∈ oddD, (match itemsOf d with | some ds => decide (ds.length ≤ 900) && !valsB ds | none => true) = true := by decide +kernel
  have z := h d hd
  unfold ofD
  cases hi : itemsOf d with
  | none => exact .of0 hi
  | some ds =>
    rw [hi] at z
    rw [Bool.and_eq_true, decide_eq_true_eq] at z
    exact .of1 hi z.1 (by simpa using z.2)
theorem odd_rp2 : ∀ d ∈ oddD, Rp (ofD d) := fun d hd => by
  have h : ∀ d ∈ oddD, ((ofD d).showable && (decide ((ofD d).depth ≤ 64) && decide ((ofD d).shown.length ≤ 1000))) = true := by decide +kernel
  have z := h d hd
  rw [Bool.and_eq_true, Bool.and_eq_true, decide_eq_true_eq, decide_eq_true_eq] at z
  exact ⟨z.1, z.2.1, by rw [sizeLine_eq]; omega⟩
theorem times_ref (ns : List Int) : ∀ d ∈ timesD, ∀ way, way = 2 ∨ way = 3 → Refs ns way d "number" d := fun d hd way hw => by
  have h : ∀ d ∈ timesD, btw d 0 60 = false := by decide +kernel
  refine .mulN ?_ (h d hd)
  rcases hw with e | e
  · exact .inl e
  · refine .inr ⟨e, ?_⟩
    have h2 : ∀ d ∈ timesD, (match d with | .none => true | .bool _ => true | .int _ => true | .str _ => true | _ => false) = true := by decide +kernel
    have z := h2 d hd
    cases d with
    | none => trivial
    | bool b => trivial
    | int i => trivial
    | str z => trivial
    | _ => cases z
theorem at_ref (ns : List Int) : ∀ d ∈ atD, Refs ns 4 d "number" d := fun d hd => by
  refine .get ?_
  have h : ∀ d ∈ atD, (match d with | .int i => decide (i < 0) | e => !isWhole e) = true := by decide +kernel
  have z := h d hd
  cases d with
  | int i => exact .inr ⟨i, rfl, of_decide_eq_true z⟩
  | _ => exact .inl rfl
theorem ta_rp : ∀ d ∈ timesD ++ atD, Rp d := fun d hd => by
  have h : ∀ d ∈ timesD ++ atD, (d.showable && (decide (d.depth ≤ 64) && decide (d.shown.length ≤ 1000))) = true := by decide +kernel
  have z := h d hd
  rw [Bool.and_eq_true, Bool.and_eq_true, decide_eq_true_eq, decide_eq_true_eq] at z
  exact ⟨z.1, z.2.1, by rw [sizeLine_eq]; omega⟩
def longL : List Int := List.replicate 60 1
theorem mk_runP {K : PySem.W.Frag} {C cB : Addr} {H : Hp} {P : Addr → Hp → Prop} {E : XK} {vs : List V} {ds : List PyData} (hd : DpAll K H vs ds) (hl : vs.length ≤ 900) (k0 : valsB ds = false → raisesD K cB (.tuple ds) H E) (k1 : valsB ds = true → ∀ G x, Same H G → DatAt K C G x (trimZ (ds.map intOf)) → P x G) :
    ∀ x dx, H x = none → H dx = none → dx ≠ x → spDR K C cB (.ref x :: vs) (upd (upd H dx (.own x)) x (.ins C dx [])) (fun v H2 => v = .non ∧ P x H2) E :=
  mk_run (Q := fun v H2 => match v with
    | .ref a => P a H2
    | _ => True) hd hl k0 k1
theorem refD_sq {K : PySem.W.Frag} {H : Hp} {p : Addr} {kd : Str} {d : PyData} (h : Dp K H (.ref p) (refD kd d)) : SqL K H p [V.str kd, V.str d.shown] := by
  cases h with
  | lst h1 h2 =>
    cases h2 with
    | cons a b =>
      cases a
      cases b with
      | cons a b =>
        cases a
        cases b
        exact h1
theorem eqv2 {K : PySem.W.Frag} {H : Hp} {n : Nat} (a b : Str) : Paired (EqV K H (n + 1)) [V.str a, V.str b] [V.str a, V.str b] := .cons (.inl ⟨rfl, rfl⟩) (.cons (.inl ⟨rfl, rfl⟩) .nil)
theorem eqvL {K : PySem.W.Frag} {H : Hp} {p q : Addr} {a b : Str} (h : SqL K H p [V.str a, V.str b]) (g : SqL K H q [V.str a, V.str b]) : EqV K H 2 (.ref p) (.ref q) := .inr (.inr (.inl ⟨p, q, _, _, rfl, rfl, h, g, eqv2 (n := 0) a b⟩))
theorem odd_add (ns : List Int) : ∀ d ∈ oddD, Refs ns 0 d "data" d := fun d hd => by
  have h : ∀ d ∈ oddD, valsOf d = none := by decide +kernel
  refine .add (fun ds hds => ?_) (by unfold addOf; rw [h d hd])
  have h2 : ∀ d ∈ oddD, (match itemsOf d with | some ds => decide (ds.length ≤ 900) | none => true) = true := by decide +kernel
  have := h2 d hd
  rw [hds] at this
  simpa using this
theorem odd_list : ∀ d ∈ oddD, isTy (tyOf d) "list" = true ∧ (∃ ds, d = .list ds ∧ ofD d = .tuple ds) ∨ isTy (tyOf d) "list" = false ∧ ofD d = d := fun d hd => by
  cases d with
  | list ds => exact .inl ⟨rfl, ds, rfl, rfl⟩
  | tuple ds => exact .inr ⟨rfl, rfl⟩
  | none => exact .inr ⟨rfl, rfl⟩
  | bool _ => exact .inr ⟨rfl, rfl⟩
  | int _ => exact .inr ⟨rfl, rfl⟩
  | str _ => exact .inr ⟨rfl, rfl⟩
  | dict _ => exact .inr ⟨rfl, rfl⟩
section
variable {P : Program} {w : World} {K : PySem.W.Frag} {mg : Str → Option Value} {base : Heap}
def spRefused (K : PySem.W.Frag) (C : Addr) : Sp := fun vs H Q _ => ∃ (x : Addr) (ns : List Int), vs = [.ref x] ∧ DatAt K C H x ns ∧ valI ns ∧ ∀ G, Same H G → Q (.bl true) G
theorem scRefused : FnScope ["data", "odd", "thing", "due", "way", "long"] ["data"] (defScope sRefused) := ⟨rfl, rfl, rfl, by decide +kernel, rfl, by decide +kernel, by decide +kernel⟩
theorem c_refused {C cB cN : Addr} (D : Def K mg "_law_refused" sRefused ["data"]) (T : Bl2 mg) (n_repr : mg "repr" = none) (Z : DMeths P w K mg base C cB cN)
    (cH : FnD P w K mg base CX0 8 "_law_heard" ["way", "data", "thing"] (spHeard K C)) : FnD P w K mg base CX0 9 "_law_refused" ["data"] (spRefused K C) := by
  refine D.okG scRefused (fun vs H Q E h => ?_) (fun f' cdv A outer s H vs Q E hgu hr h => ?_)
  · obtain ⟨x, ns, rfl, _⟩ := h
    rfl
  · obtain ⟨x, ns, rfl, hx, hv, k⟩ := h
    have sc := scRefused
    have hu80 : (A.deeper (envOfC "_law_refused" (defScope sRefused) s.heap.objs.size f' cdv)).units + 80 < cLine := by have := hr.un; omega
    have hr5 : Room 5 _ := hr.mono (by decide)
    have hr6 : Room 6 _ := hr.mono (by decide)
    obtain ⟨fD, mk, FD⟩ := Z.M.make
    have dc := Z.M.dc
    refine ⟨_, (pss_cut (ps_set (i := 1) sc.nd rfl (Or.inl rfl) (pe_lst (pa_cons pe_non (pa_cons pe_int (pa_cons pe_str (pa_cons (pe_lst (pa_cons pe_int pa_nil)) (pa_cons (pe_tup (pa_cons pe_int (pa_cons pe_bl pa_nil))) (pa_cons (pe_lst (pa_cons pe_int (pa_cons pe_non pa_nil))) (pa_cons pe_dnewK (pa_cons (pe_op op_rep (pe_lst (pa_cons pe_int pa_nil)) pe_int) pa_nil))))))))))
      (pss_cut (ps_if (pt_cmpR (op_neD hr.units) (pe_lc (own := [("thing", 2)]) (g := gName 2) rfl sc.nd (pi_list (pv 1)) (blkOk_by (N := ["data", "odd", "thing", "due", "way", "long"]) (sc := defScope sRefused) (by decide +kernel)) (fun _ _ _ _ _ => (pg_name (i := 2) sc.nd rfl (Or.inl rfl))) (fun _ _ _ _ _ => (pts_one (pt_cmpR (op_neVK K rfl hr.units) (pe_d cH hgu hr pass0 rfl (pa_cons pe_int (pa_cons (pv 0) (pa_cons (pv 2) pa_nil)))) (pe_lst (pa_cons pe_str (pa_cons (pe_callB (call_reprEK K rfl hgu hu80) (by rfl) n_repr (by decide +kernel) (pa_cons (pv 2) pa_nil)) pa_nil))) (nomark _)))) (fun _ _ _ _ _ => (pv 2))) (pe_lst pa_nil) (nomark _)) (pss_one (ps_ret pe_bl)) pss_nil)
      (pss_cut (ps_for (passes_of rfl) rfl (pi_list (pv 1)) (pg_name (i := 2) sc.nd rfl (Or.inr rfl))
        (pss_cons (ps_set (i := 3) sc.nd rfl (Or.inl rfl) (pe_ifExp (pt_val (pe_callB (call_isE ty_list) (by rfl) T.n_isinstance (by decide +kernel) (pa_cons (pv 2) (pa_cons (pe_ty "list" (by rfl) T.n_list) pa_nil)))) (pe_callB (call_reprEK K rfl hgu hu80) (by rfl) n_repr (by decide +kernel) (pa_cons (pe_callTy call_tuple_of (by rfl) T.n_tuple (by decide +kernel) (pa_cons (pv 2) pa_nil)) pa_nil)) (pe_callB (call_reprEK K rfl hgu hu80) (by rfl) n_repr (by decide +kernel) (pa_cons (pv 2) pa_nil))))
        (pss_one (ps_if (pt_cmpR (op_neV hr.units) (pe_d cH hgu hr pass0 rfl (pa_cons pe_int (pa_cons (pv 0) (pa_cons (pv 2) pa_nil)))) (pe_lst (pa_cons pe_str (pa_cons (pv 3) pa_nil))) (nomark _)) (pss_one (ps_ret pe_bl)) pss_nil))))
      (pss_cut (ps_for (passes_of rfl) rfl (pi_list (pe_lst (pa_cons (pe_un un_neg pe_int) (pa_cons pe_int (pa_cons pe_non (pa_cons pe_bl (pa_cons pe_str pa_nil))))))) (pg_name (i := 2) sc.nd rfl (Or.inr rfl))
        (pss_one (ps_if (pt_cmpR (op_neV hr.units) (pe_lc (own := [("way", 4)]) (g := gName 4) (tt := tYes) rfl sc.nd (pi_list (pe_lst (pa_cons pe_int (pa_cons pe_int pa_nil)))) (blkOk_by (N := ["data", "odd", "thing", "due", "way", "long"]) (sc := defScope sRefused) (by decide +kernel)) (fun _ _ _ _ _ => (pg_name (i := 4) sc.nd rfl (Or.inl rfl))) (fun _ _ _ _ _ => pts_nil) (fun _ _ _ _ _ => (pe_d cH hgu hr pass0 rfl (pa_cons (pv 4) (pa_cons (pv 0) (pa_cons (pv 2) pa_nil)))))) (pe_op op_rep (pe_lst (pa_cons (pe_lst (pa_cons pe_str (pa_cons (pe_callB (call_reprEK K rfl hgu hu80) (by rfl) n_repr (by decide +kernel) (pa_cons (pv 2) pa_nil)) pa_nil))) pa_nil)) pe_int) (nomark _)) (pss_one (ps_ret pe_bl)) pss_nil)))
      (pss_cut (ps_if (pt_cmpR (op_neD hr.units) (pe_lc (own := [("thing", 2)]) (g := gName 2) rfl sc.nd (pi_list (pe_lst (pa_cons (pe_un un_neg pe_int) (pa_cons pe_non (pa_cons pe_bl (pa_cons pe_str pa_nil)))))) (blkOk_by (N := ["data", "odd", "thing", "due", "way", "long"]) (sc := defScope sRefused) (by decide +kernel)) (fun _ _ _ _ _ => (pg_name (i := 2) sc.nd rfl (Or.inl rfl))) (fun _ _ _ _ _ => (pts_one (pt_cmpR (op_neVK K rfl hr.units) (pe_d cH hgu hr pass0 rfl (pa_cons pe_int (pa_cons (pv 0) (pa_cons (pv 2) pa_nil)))) (pe_lst (pa_cons pe_str (pa_cons (pe_callB (call_reprEK K rfl hgu hu80) (by rfl) n_repr (by decide +kernel) (pa_cons (pv 2) pa_nil)) pa_nil))) (nomark _)))) (fun _ _ _ _ _ => (pv 2))) (pe_lst pa_nil) (nomark _)) (pss_one (ps_ret pe_bl)) pss_nil)
      (pss_cut (ps_set (i := 5) sc.nd rfl (Or.inl rfl) (pe_opI (op := .Mult) (E := fun _ => E0) Z.mul Z.mulO.own hr6 (fun σ => passLAt σ) (pe_makeRS (D := fun _ => E0) mk FD hr5 (fun σ => passLAt σ) rfl Z.M.gD (pa_cons pe_int pa_nil)) pe_int))
      (pss_one (ps_ret (pe_and (pe_cmpR (op_eqV hr.units) (pe_d cH hgu hr pass0 rfl (pa_cons pe_int (pa_cons (pv 5) (pa_cons (pe_lst (pa_cons pe_int pa_nil)) pa_nil)))) (pe_lst (pa_cons pe_str (pa_cons (pe_callB (call_reprEK K rfl hgu hu80) (by rfl) n_repr (by decide +kernel) (pa_cons (pe_lst (pa_cons pe_int pa_nil)) pa_nil)) pa_nil))) (nomark _)) (pe_one (pe_cmpR (op_eqV hr.units) (pe_d cH hgu hr pass0 rfl (pa_cons pe_int (pa_cons (pe_makeRS (D := fun _ => E0) mk FD hr5 (fun σ => passLAt σ) rfl Z.M.gD (pa_cons pe_int (pa_cons pe_int pa_nil))) (pa_cons pe_int pa_nil)))) (pe_lst (pa_cons pe_str (pa_cons pe_str pa_nil))) (nomark _)))))))))))), ?_⟩
    refine ⟨fun τ G => ∃ (o : Addr) (ov : List V), τ = [some (.ref x), some (.ref o), none, none, none, none] ∧ Same H G ∧ SqL K G o ov ∧ DpEs K G ov oddD, ?_, ?_⟩
    · walk_at "wp"
      refine ⟨by decide, fun p1 h1 => ⟨by decide, fun p2 h2 => ⟨by decide, fun p3 h3 p4 h4 => ⟨by decide, fun p5 h5 => ⟨_, upd_same, by decide, by decide, by decide, fun p6 h6 => ⟨by decide, fun p7 h7 => ?_⟩⟩⟩⟩⟩⟩
      have s1 := same_new (o := .lst [V.int 3]) h1
      have s2 := same_new (o := .tup [V.int 0, V.bl true]) h2
      have s3 := same_new (o := .lst [V.int 0, V.non]) h3
      have s4 := same_new (o := .dK []) h4
      have s5 := same_new (o := .lst [V.int 0]) h5
      have s6 := same_new (o := .lst (List.replicate (Int.toNat 61) [V.int 0]).flatten) h6
      have s7 := same_new (o := .lst [V.non, V.int 5, V.str (Str.ofString "01"), V.ref p1, V.ref p2, V.ref p3, V.ref p4, V.ref p6]) h7
      refine ⟨(((((s1.trans s2).trans s3).trans s4).trans s5).trans s6).trans s7, _, SqL.of upd_same, ?_⟩
      refine .cons (.inl .non) (.cons (.inl (.int 5)) (.cons (.inl (.str _)) (.cons (.inl (.lst (SqL.of (((((s2.trans s3).trans s4).trans s5).trans s6).trans s7 _ _ upd_same)) (.cons (.int _) .nil))) (.cons (.inl (.tup (SqT.of ((((s3.trans s4).trans s5).trans s6).trans s7 _ _ upd_same)) (.cons (.int _) (.cons (.bl _) .nil)))) (.cons (.inl (.lst (SqL.of (((s4.trans s5).trans s6).trans s7 _ _ upd_same)) (.cons (.int _) (.cons .non .nil)))) (.cons (.inr ⟨rfl, p4, rfl, ((s5.trans s6).trans s7) _ _ upd_same⟩) (.cons (.inl (.lst (SqL.of (s7 _ _ upd_same)) ?_)) .nil)))))))
      have e : (List.replicate (Int.toNat 61) [V.int 0]).flatten = (List.replicate 61 (0 : Int)).map V.int := by decide +kernel
      rw [e, show List.replicate 61 (PyData.int 0) = (List.replicate 61 (0 : Int)).map PyData.int by rw [List.map_replicate]]
      exact dps_ints _
    rintro τ G ⟨o, ov, rfl, g, ho, hov⟩
    have hxG := datAt_same g hx
    have hol := hov.len
    have hol8 : ov.length = 8 := hol
    refine ⟨fun τ G2 => τ = [some (.ref x), some (.ref o), none, none, none, none] ∧ Same G G2, ?_, ?_⟩
    · walk_at "wp"
      refine ⟨⟨_, ho⟩, ?_⟩
      refine lcw_it walk_list (fun D i G2 => Same G G2 ∧ G D = none ∧ G2 D = some (.lst [])) (fun D hD => ⟨same_new hD, hD, upd_same⟩) (fun _ _ _ _ e => Same.sqL e.1 ho) ?_ ?_
      · rintro D i z G2 G3 hD hi ⟨e2, hD0, hD2⟩ ⟨rfl, hz⟩
        walk_at "wp"
        obtain ⟨d, hd1, hd2⟩ := hov.get hz
        have hm := List.mem_of_getElem? hd1
        refine ⟨x, 0, z, ns, d, d, "data", rfl, datAt_same e2 hxG, hv, dpE_same e2 hd2, (fun e => by rcases e with e | e | e <;> cases e), odd_add ns d hm, odd_rp d hm, fun p G4 e4 hp hd4 => ?_⟩
        have s4 := refD_sq hd4
        refine ⟨d, dpE_same (e2.trans e4) hd2, odd_rp d hm, by decide, fun q hq => ?_⟩
        have e5 := same_new (o := .lst [V.str (Str.ofString "data"), V.str d.shown]) hq
        refine ⟨1, p, q, _, _, by decide, rfl, rfl, Same.sqL e5 s4, SqL.of upd_same, eqv2 _ _, false, rfl, ?_⟩
        rw [if_neg Bool.false_ne_true]
        exact ⟨(e2.trans e4).trans e5, hD0, (e4.trans e5) _ _ hD2⟩
      · rintro D G2 hD ⟨e2, hD0, hD2⟩
        refine ⟨Nat.zero_le _, fun q hq => ⟨_, _, .lst (SqL.of ((same_new hq) _ _ hD2)) .nil, .lst (SqL.of upd_same) .nil, shaped_ints [], shaped_ints [], _, rfl, ?_⟩⟩
        rw [if_neg (by decide)]
        exact e2.trans (same_new hq)
    rintro τ G2 ⟨rfl, g2⟩
    have g12 := g.trans g2
    have hx2 := datAt_same g12 hx
    have ho2 := Same.sqL g2 ho
    have hov2 := hov.same g2
    -- way 5
    refine ⟨fun τ G3 => ∃ v2 v3, τ = [some (.ref x), some (.ref o), v2, v3, none, none] ∧ Same G2 G3, ?_, ?_⟩
    · walk_at "wp"
      refine ⟨⟨_, ho2⟩, ?_⟩
      refine loop_it walk_list (fun i τ G3 => (∃ v2 v3, τ = [some (.ref x), some (.ref o), v2, v3, none, none]) ∧ Same G2 G3) ⟨⟨_, _, rfl⟩, Same.refl _⟩ (fun _ _ _ _ e => Same.sqL e.2 ho2) ?_ ?_
      · rintro i z τ G3 G3' hi ⟨⟨v2, v3, rfl⟩, e3⟩ ⟨rfl, hz⟩
        walk_at "wp"
        obtain ⟨d, hd1, hd2⟩ := hov2.get hz
        have hm := List.mem_of_getElem? hd1
        have hz3 := dpE_same e3 hd2
        -- what is told, and what is due
        have turn : ∀ (G4 : Hp) (Q' : Hp → Prop) (R : Hp → Prop), Same G3' G4 → (∀ G5, Same G4 G5 → Q' G5) → spHeard K C [V.int 5, V.ref x, z] G4 (fun y H1 => 2 ≤ sizeLine ∧ ∀ (p : Addr), H1 p = none →
            rNeV K y (V.ref p) (upd H1 p (HO.lst [V.str (Str.ofString "data"), V.str (ofD d).shown])) fun y H' => ∃ k, y = V.bl k ∧ if k = true then R H' else Q' H') E0 := fun G4 Q' R e4 q => by
          refine ⟨x, 5, z, ns, d, ofD d, "data", rfl, datAt_same (e3.trans e4) hx2, hv, dpE_same e4 hz3, (fun e => by rcases e with e | e | e <;> cases e), odd_of ns d hm, odd_rp2 d hm, fun p G5 e5 hp hd5 => ⟨by decide, fun q' hq' => ?_⟩⟩
          refine ⟨1, p, q', _, _, by decide, rfl, rfl, Same.sqL (same_new hq') (refD_sq hd5), SqL.of upd_same, eqv2 _ _, false, rfl, ?_⟩
          rw [if_neg Bool.false_ne_true]
          exact q _ (e5.trans (same_new hq'))
        refine ⟨d, hz3, ?_⟩
        rcases odd_list d hm with ⟨e1, ds, rfl, e2⟩ | ⟨e1, e2⟩
        · rw [if_pos e1]
          rcases hz3 with hz3 | ⟨hz3, _⟩
          · obtain ⟨a, xs, rfl, h1, h2⟩ : ∃ a xs, z = V.ref a ∧ SqL K G3' a xs ∧ DpAll K G3' xs ds := by
              cases hz3 with
              | lst h1 h2 => exact ⟨_, _, rfl, h1, h2⟩
            · refine ⟨a, rfl, xs, .inl ⟨h1, fun l hl => ?_⟩⟩
              have e6 := same_new (o := .tup xs) hl
              refine ⟨.tuple ds, .inl (.tup (SqT.of upd_same) (dps_same e6 _ _ h2)), by rw [← e2]; exact odd_rp2 _ hm, ?_⟩
              rw [← e2]
              exact turn _ (fun H' => (∃ x, some (V.str (ofD (.list ds)).shown) = x) ∧ Same G2 H') _ e6 fun G5 e5 => ⟨⟨_, rfl⟩, (e3.trans e6).trans e5⟩
          · cases hz3
        · rw [if_neg (by rw [e1]; exact Bool.false_ne_true)]
          refine ⟨d, hz3, odd_rp d hm, ?_⟩
          rw [show d.shown = (ofD d).shown by rw [e2]]
          exact turn _ (fun H' => (∃ x, some (V.str (ofD d).shown) = x) ∧ Same G2 H') _ (Same.refl _) fun G5 e5 => ⟨⟨_, rfl⟩, e3.trans e5⟩
      · rintro τ G3 ⟨⟨v2, v3, rfl⟩, e3⟩
        exact ⟨⟨v2, v3, rfl⟩, e3⟩
    rintro τ G3 ⟨v2, v3, rfl, g3⟩
    have hx3 := datAt_same g3 hx2
    -- ways 2 and 3
    refine ⟨fun τ G4 => ∃ v2 v3, τ = [some (.ref x), some (.ref o), v2, v3, none, none] ∧ Same G3 G4, ?_, ?_⟩
    · walk_at "wp"
      refine ⟨by decide, fun tl htl => ?_⟩
      have htl2 := same_new (o := .lst [V.int (-1), V.int 61, V.non, V.bl true, V.str (Str.ofString "2")]) htl
      generalize hGG : upd G3 tl (.lst [V.int (-1), V.int 61, V.non, V.bl true, V.str (Str.ofString "2")]) = GG at htl2 ⊢
      have hls : SqL K GG tl [V.int (-1), V.int 61, V.non, V.bl true, V.str (Str.ofString "2")] := SqL.of (by rw [← hGG]; exact upd_same)
      have hda : DpAll K GG [V.int (-1), V.int 61, V.non, V.bl true, V.str (Str.ofString "2")] timesD := .cons (.int _) (.cons (.int _) (.cons .non (.cons (.bl _) (.cons (.str _) .nil))))
      have hxg := datAt_same htl2 hx3
      refine ⟨⟨_, hls⟩, ?_⟩
      refine loop_it walk_list (fun i τ G4 => (∃ v2 v3, τ = [some (.ref x), some (.ref o), v2, v3, none, none]) ∧ Same GG G4) ⟨⟨_, _, rfl⟩, Same.refl _⟩ (fun _ _ _ _ e => Same.sqL e.2 hls) ?_ ?_
      · rintro i z τ G4 G4' hi ⟨⟨v2, v3, rfl⟩, e4⟩ ⟨rfl, hz⟩
        walk_at "wp"
        obtain ⟨d, hd1, hd2⟩ := dpAll_get hda hz
        have hm := List.mem_of_getElem? hd1
        have hz4 := dp_same e4 _ _ hd2
        have hrp := ta_rp d (List.mem_append_left _ hm)
        refine ⟨by decide, fun wl hwl => ?_⟩
        have e5 := same_new (o := .lst [V.int 2, V.int 3]) hwl
        generalize hG5 : upd G4' wl (.lst [V.int 2, V.int 3]) = G5 at e5 ⊢
        have hwls : SqL K G5 wl [V.int 2, V.int 3] := SqL.of (by rw [← hG5]; exact upd_same)
        refine ⟨⟨_, hwls⟩, ?_⟩
        refine lcw_it walk_list (fun D i G6 => Same G5 G6 ∧ G5 D = none ∧ ∃ ps : List Addr, ps.length = i ∧ G6 D = some (.lst (ps.map V.ref)) ∧ ∀ p ∈ ps, p ≠ D ∧ SqL K G6 p [V.str (Str.ofString "number"), V.str d.shown]) (fun D hD => ⟨same_new hD, hD, [], rfl, upd_same, fun p hp => nomatch hp⟩) (fun _ _ _ _ e => Same.sqL e.1 hwls) ?_ ?_
        · rintro D i y G6 G6' hD hi ⟨e6, hD0, ps, hps, hD6, hall⟩ ⟨rfl, hy⟩
          walk_at "wp"
          have hw23 : ∃ way : Int, y = .int way ∧ (way = 2 ∨ way = 3) := by
            match i, hy with
            | 0, hy => cases hy; exact ⟨2, rfl, .inl rfl⟩
            | 1, hy => cases hy; exact ⟨3, rfl, .inr rfl⟩
            | _ + 2, hy => exact nomatch hy
          obtain ⟨way, rfl, hw⟩ := hw23
          have e46 := (e4.trans e5).trans e6
          refine ⟨x, way, z, ns, d, d, "number", rfl, datAt_same e46 hxg, hv, .inl (dp_same (e5.trans e6) _ _ hz4), fun _ => dp_same (e5.trans e6) _ _ hz4, times_ref ns d hm way hw, hrp, fun p G7 e7 hp hd7 => ?_⟩
          have hD7 := e7 _ _ hD6
          have s7 := refD_sq hd7
          have hne : p ≠ D := fun e => by
            subst e
            rw [hD6] at hp
            cases hp
          have mutL : ∀ (q : Addr) (zs : List V), q ≠ D → SqL K G7 q zs → SqL K (upd G7 D (.lst (ps.map V.ref ++ [V.ref p]))) q zs := fun q zs hq h => by
            rcases h with (h | ⟨o, h⟩) | h
            · exact .inl (.inl (by rw [upd_ne hq]; exact h))
            · exact .inl (.inr ⟨o, by rw [upd_ne hq]; exact h⟩)
            · exact .inr h
          refine ⟨_, hD7, by have h2 : i < 2 := hi; rw [List.length_map, hps, sizeLine_eq]; omega, (fun b o hb => ?_), hD0, ps ++ [p], by rw [List.length_append, hps]; rfl, by rw [upd_same, List.map_append]; rfl, fun q hq => ?_⟩
          · have hbD : b ≠ D := fun e => by
              subst e
              rw [hD0] at hb
              cases hb
            rw [upd_ne hbD]
            exact e7 _ _ (e6 _ _ hb)
          · rcases List.mem_append.mp hq with h | h
            · have hqs := hall q h
              exact ⟨hqs.1, mutL q _ hqs.1 (Same.sqL e7 hqs.2)⟩
            · rw [List.mem_singleton.mp h]
              exact ⟨hne, mutL p _ hne s7⟩
        · rintro D G6 hD ⟨e6, hD0, ps, hps, hD6, hall⟩
          have e46 := (e4.trans e5).trans e6
          refine ⟨d, .inl (dp_same (e5.trans e6) _ _ hz4), hrp, by decide, fun p1 hp1 => ⟨by decide, fun p2 hp2 => ⟨_, upd_same, by decide, by decide, (show 1 * 2 ≤ sizeLine by decide), fun p3 hp3 => ?_⟩⟩⟩
          have f1 := same_new (o := .lst [V.str (Str.ofString "number"), V.str d.shown]) hp1
          have f2 := same_new (o := .lst [V.ref p1]) hp2
          have f3 := same_new (o := .lst (List.replicate (Int.toNat 2) [V.ref p1]).flatten) hp3
          have f13 := (f1.trans f2).trans f3
          match ps, hps, hD6, hall with
          | [q1, q2], _, hD6, hall =>
            have sq : SqL K _ p1 [V.str (Str.ofString "number"), V.str d.shown] := SqL.of ((f2.trans f3) _ _ upd_same)
            refine ⟨2, D, p3, _, _, by decide, rfl, rfl, SqL.of (f13 _ _ hD6), SqL.of upd_same, .cons (eqvL (Same.sqL f13 (hall q1 (.head _)).2) sq) (.cons (eqvL (Same.sqL f13 (hall q2 (.tail _ (.head _))).2) sq) .nil), false, rfl, ?_⟩
            rw [if_neg Bool.false_ne_true]
            exact ⟨⟨_, rfl⟩, e46.trans f13⟩
      · rintro τ G4 ⟨⟨v2, v3, rfl⟩, e4⟩
        exact ⟨⟨v2, v3, rfl⟩, htl2.trans e4⟩
    rintro τ G4 ⟨v4, v5, rfl, g4⟩
    have hx4 := datAt_same g4 hx3
    -- way 4
    refine ⟨fun τ G5 => τ = [some (.ref x), some (.ref o), v4, v5, none, none] ∧ Same G4 G5, ?_, ?_⟩
    · walk_at "wp"
      refine ⟨by decide, fun tl htl => ?_⟩
      have htl2 := same_new (o := .lst [V.int (-1), V.non, V.bl true, V.str (Str.ofString "0")]) htl
      generalize hGG : upd G4 tl (.lst [V.int (-1), V.non, V.bl true, V.str (Str.ofString "0")]) = GG at htl2 ⊢
      have hls : SqL K GG tl [V.int (-1), V.non, V.bl true, V.str (Str.ofString "0")] := SqL.of (by rw [← hGG]; exact upd_same)
      have hda : DpAll K GG [V.int (-1), V.non, V.bl true, V.str (Str.ofString "0")] atD := .cons (.int _) (.cons .non (.cons (.bl _) (.cons (.str _) .nil)))
      have hxg := datAt_same htl2 hx4
      refine ⟨⟨_, hls⟩, ?_⟩
      refine lcw_it walk_list (fun D i G2 => Same GG G2 ∧ GG D = none ∧ G2 D = some (.lst [])) (fun D hD => ⟨same_new hD, hD, upd_same⟩) (fun _ _ _ _ e => Same.sqL e.1 hls) ?_ ?_
      · rintro D i z G2 G3 hD hi ⟨e2, hD0, hD2⟩ ⟨rfl, hz⟩
        walk_at "wp"
        obtain ⟨d, hd1, hd2⟩ := dpAll_get hda hz
        have hm := List.mem_of_getElem? hd1
        have hrp := ta_rp d (List.mem_append_right _ hm)
        refine ⟨x, 4, z, ns, d, d, "number", rfl, datAt_same e2 hxg, hv, .inl (dp_same e2 _ _ hd2), fun _ => dp_same e2 _ _ hd2, at_ref ns d hm, hrp, fun p G4 e4 hp hd4 => ?_⟩
        have s4 := refD_sq hd4
        refine ⟨d, .inl (dp_same (e2.trans e4) _ _ hd2), hrp, by decide, fun q hq => ?_⟩
        have e5 := same_new (o := .lst [V.str (Str.ofString "number"), V.str d.shown]) hq
        refine ⟨1, p, q, _, _, by decide, rfl, rfl, Same.sqL e5 s4, SqL.of upd_same, eqv2 _ _, false, rfl, ?_⟩
        rw [if_neg Bool.false_ne_true]
        exact ⟨(e2.trans e4).trans e5, hD0, (e4.trans e5) _ _ hD2⟩
      · rintro D G2 hD ⟨e2, hD0, hD2⟩
        refine ⟨Nat.zero_le _, fun q hq => ⟨_, _, .lst (SqL.of ((same_new hq) _ _ hD2)) .nil, .lst (SqL.of upd_same) .nil, shaped_ints [], shaped_ints [], _, rfl, ?_⟩⟩
        rw [if_neg (by decide)]
        exact (htl2.trans e2).trans (same_new hq)
    rintro τ G5 ⟨rfl, g5⟩
    have hx5 := datAt_same g5 hx4
    refine ⟨fun τ G6 => ∃ y, τ = [some (.ref x), some (.ref o), v4, v5, none, some (.ref y)] ∧ Same G5 G6 ∧ DatAt K C G6 y longL, ?_, ?_⟩
    · walk_at "wp"
      refine mk_runP (ds := [.int 1]) (.cons (.int 1) .nil) (by decide) (fun z => by cases z) fun _ G6 z e6 hz => ?_
      obtain ⟨dz, tz, hzi, _⟩ := id hz
      have hv1 : valI (trimZ ([PyData.int 1].map intOf)) := by unfold valI; decide
      refine ⟨⟨_, _, hzi⟩, ⟨_, ty_dp (.int 60), Z.mulO.of _⟩, z, _, .int 60, .int 60, rfl, hz, hv1, .int 60, (fun z => by cases z), fun _ => ⟨fun z => absurd (by decide) z, fun _ G7 y e7 hy => ⟨y, rfl, e6.trans e7, ?_⟩⟩⟩
      exact hy
    rintro τ G6 ⟨y, rfl, g6, hy⟩
    have g06 := ((((g12.trans g3).trans g4).trans g5).trans g6)
    walk_at "wp"
    have hvL : valI longL := by unfold valI longL; decide +kernel
    have r1 : Rp (.list [.int 1]) := ⟨by decide +kernel, by decide +kernel, by decide +kernel⟩
    have r2 : Rp (.int 31) := ⟨by decide +kernel, by decide +kernel, by decide +kernel⟩
    have d1 : ∀ (G : Hp) (p : Addr), G p = some (.lst [V.int 1]) → DpE K G (.ref p) (.list [.int 1]) := fun G p h => .inl (.lst (SqL.of h) (.cons (.int 1) .nil))
    have ref1 : Refs longL 0 (.list [.int 1]) "data" (.list [.int 1]) := .add (fun ds e => by cases e; decide) (by decide +kernel)
    refine ⟨by decide, fun p1 hp1 => ⟨y, 0, .ref p1, longL, _, _, "data", rfl, datAt_same (same_new hp1) hy, hvL, d1 _ _ upd_same, (fun e => by rcases e with e | e | e <;> cases e), ref1, r1, fun p2 G7 e7 hp2 hd7 => ⟨by decide, fun p3 hp3 => ⟨_, d1 _ _ upd_same, r1, by decide, fun p4 hp4 => ?_⟩⟩⟩⟩
    have s7 := refD_sq hd7
    have e3 := same_new (o := .lst [V.int 1]) hp3
    have e4 := same_new (o := .lst [V.str (Str.ofString "data"), V.str (PyData.list [.int 1]).shown]) hp4
    refine ⟨1, by decide, .inl ⟨p2, p4, _, _, rfl, rfl, Same.sqL (e3.trans e4) s7, SqL.of upd_same, eqv2 _ _⟩, ?_⟩
    refine mk_runP (ds := [.int 0, .int 1]) (.cons (.int 0) (.cons (.int 1) .nil)) (by decide) (fun z => by cases z) fun _ G8 z e8 hz => ?_
    have hv2 : valI (trimZ ([PyData.int 0, PyData.int 1].map intOf)) := by unfold valI; decide
    refine ⟨z, 2, .int 31, _, .int 31, .int 31, "data", rfl, hz, hv2, .inl (.int 31), fun _ => .int 31, .mulD (.inl rfl) (by decide +kernel) (by decide +kernel), r2, fun p5 G9 e9 hp5 hd9 => ⟨by decide, fun p6 hp6 => ?_⟩⟩
    have s9 := refD_sq hd9
    have e31 : (PyData.int 31).shown = "31" := by decide +kernel
    rw [e31] at s9
    have e6 := same_new (o := .lst [V.str (Str.ofString "data"), V.str (Str.ofString "31")]) hp6
    exact ⟨1, by decide, .inl ⟨p5, p6, _, _, rfl, rfl, Same.sqL e6 s9, SqL.of upd_same, eqv2 _ _⟩, k _ ((((((g06.trans (same_new hp1)).trans e7).trans e3).trans e4).trans e8).trans (e9.trans e6))⟩
end
end YY

set_option maxRecDepth 100000
set_option maxHeartbeats 4000000
namespace XX
open PySem PySem.Spec PyProof.Rows L2
/-! ### an instance made of nothing, by a positional promise -/
section
variable {X : Cx} {CX : CXT} {k : Nat} {f C : Addr} {sp : Sp} {x : Str} {p pos : Pos}
theorem pe_makeRS0 {D : L2.St → XK} (M : Mk X.K C f) (F : FnR X.prog X.w X.K X.mg X.base CX k f sp) (room : Room (k + 1) X.A) (ps : ∀ σ, PassesAt CX X σ (D σ)) (hg : Gl X x) (hm : X.mg x = some (.ref C)) (hd : (x == ("__debug__" : Str)) = false := by decide) : PE X (.Call (.Name x p) [] [] pos) (tMakeRS C sp D tNil) :=
  ⟨fun pn sh J hp R I q => wpAny_Call_Name_kw (ld_glob I hg hm (PySem.W.callWith_K0 I.kIn M.kp (run_makeRS (ws := []) M F room (ps J) I .nil q)) hd)⟩
end
end XX

set_option maxRecDepth 100000
set_option maxHeartbeats 4000000
namespace YY
open PySem PySem.Spec PyProof.Rows L2 XX
local macro_rules | `(tactic| walk_at "wp") => `(tactic| simp only [tPar3, rIndex, tAug, rExt2, tSeq, tNext, tAsg, tPar, gName, tCB, tCons, tNil, tVar, tC, tOp, tUn, rI, rI0, rU, tLst, tTup, tFor_eq, iRng1, iRng2, iList, iTup, tRet, tRetN, tDrop, tIfS, tTest, tB, tAnd, tOr, tNot, tIf, tAndV, tOrV, tNotV, tCall, tBM, tBM0, rIxL, rIxT, rAppend, tLc_eq, gSub, rSetL, rEq, rNe, rMulS, rIxS, tRevT, gTup, gCons, gNil, wipe, tYes, LcEnd, tDisp, tPairs, tChain, tSl, tPart, tNoPart, rSlT, rSlL, rCatT, rCat, rRep, rIsD, V.ty.injEq, iZipB, tDNewK, tXf, wMA, wAs, rLenK, tLenSetS, rReprE, tVeI, tOst, tErr, tMkO, sFld, tFld, rIsE2, tMakeS, rListStr, tDNotIn, tDIn, tDGet, rSetD, gSub, iEnumA, rIxD, iStr, rIn, rEqI, rLenI, tIxI, rSetI, rSortedSet, rEqK, rEqV, tCallS, tDc_eq, tLc2_eq, tMeth, tMethX, tSMeth, tMakeV, tMakeVS, tMakeRS, WE, tOpI, tOpR, tMulD, tMulA, tM1, StX.tMakeR, rRepA, rReprI, rIsE, rCatA, StX.tMakeR, StX.tStar, tLock, tLockE, iItems, iKeys,
  cxOf_K, cxOf_noxK, L2.start, List.map_cons, List.map_nil, List.length_cons, List.length_nil, Nat.reduceAdd, Nat.reduceSub, List.replicate_succ, List.replicate_zero, List.replicate, List.cons_append, List.nil_append, List.getElem?_cons_zero, List.getElem?_cons_succ, List.set_cons_zero, List.set_cons_succ, List.append_nil,
  Option.some.injEq, V.int.injEq, V.ref.injEq, V.bl.injEq, V.str.injEq, List.cons.injEq, and_true, true_and, exists_eq_left', exists_eq_left, exists_and_left, exists_and_right, exists_const, bool_ite_true, bool_ite_false, dec_ite, ndec_ite, reduceCtorEq, false_or, or_false, false_and, and_false, decide_eq_true_eq, and_assoc, reduceIte, ite_true, ite_false, Int.zero_add])

/-! ### the law -/
abbrev sLaw : Stmt := topS 25
theorem Gr.ofSame {p : Addr} {H H' : Hp} (h : Pool H p) (e : Same H H') : Gr p H H' := by
  obtain ⟨l, i, ns, h1, h2, h3⟩ := h
  exact ⟨fun b o _ hb => e b o hb, ⟨l, i, ns, e _ _ h1, e _ _ h2, h3⟩, fun l i h => ⟨i, e _ _ h⟩⟩
theorem same_gr {p : Addr} {H G F : Hp} (n : H p = none) (s : Same H G) (g : Gr p G F) : Same H F := fun b o h => g.keep b o (fun z => by
  rw [z, n] at h
  cases h) (s b o h)
theorem Gr.dat {K : PySem.W.Frag} {C p x : Addr} {H G : Hp} {ns : List Int} (g : Gr p H G) (hp : Pool H p) (h : DatAt K C H x ns) : DatAt K C G x ns := by
  obtain ⟨dx, t, h1, h2⟩ := h
  refine ⟨dx, t, g.keep _ _ (fun z => ?_) h1, g.tup hp h2⟩
  subst z
  obtain ⟨l, i, ms, h3, _⟩ := hp
  rw [h3] at h1
  cases h1
theorem btw60 {t : Int} (a : 0 ≤ t) (b : t < 5) : btw (.int t) 0 60 = true := by
  unfold btw
  simp
  omega
def Sl (a : V) (τ : L2.St) : Prop := ∃ u1 u2 u3 u4 u5 u6 u7 u8 : Option V, τ = [some a, u1, u2, u3, u4, u5, u6, u7, u8]
section
variable {P : Program} {w : World} {K : PySem.W.Frag} {mg : Str → Option Value} {base : Heap}
theorem fun_okG {f : Addr} {fd : FuncData} {CX : CXT} {x : Str} {st : Stmt} {N ps : List Str} {k : Nat} {sp : Sp} (F : L2.Fun K x x st f fd) (S : FnScope N ps (defScope st)) (len : ∀ vs H Q E, sp vs H Q E → vs.length = ps.length)
    (hbody : ∀ (cdv : Value) (A : Around) (outer : List Env) (s : Shared) (H : Hp) (vs : List V) (Q : VK) (E : XK), (A.deeper (envOfC x (defScope st) s.heap.objs.size f cdv)).guards = some [] → Room k (A.deeper (envOfC x (defScope st) s.heap.objs.size f cdv)) → sp vs H Q E →
      ∃ t, PSs (cxOf CX P w K mg base N x (defScope st) f cdv A outer s H E) (defBody st) t ∧ t { nx := fun _ H' => Q .non H', rt := Q } (L2.start N vs) H) : FnG P w K mg base CX (k + 1) f fd ps sp := by
  refine ⟨len, fun A outer s H args us vs Q E hg hr e0 hbd r hsp => ?_⟩
  obtain ⟨oc, od, kV, doc, pm, an, cdv, ct, osl, rfl, lk, hcd⟩ := F.ex
  have len0 := len _ _ _ _ hsp
  have hin : K.In s.heap := e0.mod.kin.keeps fun b o q => (e0.bs b o q).1
  have hnl : s.heap.NoLimit := e0.mod.nolimit.keeps fun b o q => (e0.bs b o q).1
  have knd : ∀ y ∈ ps.zip us, (defScope st).names.lookup y.1 = some .local ∨ ((defScope st).names.lookup y.1 = some .cell ∧ ((cellsFrom (s.heap.objs.size + 1) (defScope st).names []).lookup y.1).isSome = true) := by
    rintro ⟨n, v⟩ hy
    exact (S.par n (List.of_mem_zip hy).1).imp id fun q => ⟨q, PySem.W.cellsFrom_some _ _ _ (.inl q)⟩
  refine codeAny_call_function hr.depth (hin _ _ lk) rfl S.co S.gen rfl (PySem.W.codeRec_of hin hcd) (hbd _ _ _ _ (wpAny_newFunctionEnv_cells S.kind knd fun env he s1 x1 => ?_))
  subst he
  refine ⟨hnl.keeps x1.toInCall.keep, codeAny_func ?_⟩
  obtain ⟨t, ht, hq⟩ := hbody cdv A outer s H vs Q E (guards_deeper hg) (hr.deeper _) hsp
  have fin : ∀ {s' : Shared} {τ : L2.St} {H' : Hp} {v : V} {u : Value}, Inv (cxOf CX P w K mg base N x (defScope st) f cdv A outer s H E) [] τ H' s' → RelV v u → Q v H' → CE outer P w H s Q u s' :=
    fun J rv q => ⟨_, _, J.os, J.bare, J.base, J.hok, rv, q⟩
  refine wpAny_mono (ht.run [] s1 (L2.start N vs) H _ (inv_start S hr.hd e0 len0 r x1) hq) (fun fl s' hs => ?_) fun e s' hs => hs
  match fl, hs with
  | .ret u, ⟨v, τ, H', J, rv, q⟩ => exact fin J rv q
  | .next, ⟨τ, H', J, q⟩ => exact fin (v := V.non) (u := Value.none) J rfl q
  | .brk, ⟨_, _, _, q⟩ => exact q.elim
  | .cont, ⟨_, _, _, q⟩ => exact q.elim
def spLaw (K : PySem.W.Frag) : Sp := fun vs H Q _ => ∃ (a : Addr) (ns : List Int), vs = [.ref a] ∧ ns.length ≤ 63 ∧ SqL K H a (ns.map V.int) ∧ ∀ H', Q (.bl true) H'
theorem scLaw : FnScope ["script", "k", "cell", "pool", "first", "second", "data", "times", "due"] ["script"] (defScope sLaw) := ⟨rfl, rfl, rfl, by decide +kernel, rfl, by decide +kernel, by decide +kernel⟩
structure Parts (P : Program) (w : World) (K : PySem.W.Frag) (mg : Str → Option Value) (base : Heap) (C : Addr) : Prop where
  pool : FnC P w K mg base CX0 2 "_law_pool" ["cell", "salt", "many"] spPool
  draw : FnC P w K mg base CX0 1 "_law_draw" ["pool", "many"] spDraw
  vals : FnC P w K mg base CX0 2 "_law_values" ["pool", "size", "top"] (spValues K)
  trim : FnC P w K mg base CX0 1 "_law_trimmed" ["some"] (spTrimmed K)
  shows : FnC P w K mg base CX0 7 "_law_shows" ["data", "some"] (spShows K C)
  sums : FnC P w K mg base CX0 8 "_law_sums_right" ["first", "second"] (spSums K)
  refused : FnD P w K mg base CX0 9 "_law_refused" ["data"] (spRefused K C)
theorem c_law {C cB cN f : Addr} {fd : FuncData} (F : L2.Fun K "law" "law" sLaw f fd) (T : Bl2 mg) (Z : DMeths P w K mg base C cB cN) (N : Parts P w K mg base C) : FnG P w K mg base CX0 10 f fd ["script"] (spLaw K) := by
  refine fun_okG F scLaw (fun vs H Q E h => ?_) (fun cdv A outer s H vs Q E hgu hr h => ?_)
  · obtain ⟨a, ns, rfl, _⟩ := h
    rfl
  · obtain ⟨a, ns, rfl, hn, hS, k⟩ := h
    have sc := scLaw
    have hr1 : Room 1 _ := hr.mono (by decide)
    have hr2 : Room 2 _ := hr.mono (by decide)
    have hr5 : Room 5 _ := hr.mono (by decide)
    have hr6 : Room 6 _ := hr.mono (by decide)
    have hr7 : Room 7 _ := hr.mono (by decide)
    have hr8 : Room 8 _ := hr.mono (by decide)
    obtain ⟨mc, pO, gO, gd, cr, sm, FO, bO⟩ := Z.of
    obtain ⟨fD, mk, FD⟩ := Z.M.make
    have dc := Z.M.dc
    refine ⟨_, (pss_cut (ps_for (passes_of rfl) rfl (pi_enumA false (by rfl) T.n_enumerate (pa_cons (pe_op op_cat (pe_slice sl_list (pv 0) po_none (po_some pe_int)) (pe_op op_rep (pe_lst (pa_cons pe_int pa_nil)) (pe_callTy call_int1 (by rfl) T.n_int (by decide +kernel) (pa_cons (pe_cmpR (op_eqD hr.units) (pv 0) (pe_lst pa_nil) (nomark _)) pa_nil)))) pa_nil)) (pg_tup (by rfl) (pgs_cons (pg_name (i := 1) sc.nd rfl (Or.inl rfl)) (pgs_cons (pg_name (i := 2) sc.nd rfl (Or.inl rfl)) pgs_nil)))
      (pss_cut (ps_set (i := 3) sc.nd rfl (Or.inl rfl) (pe_c N.pool hr2 rfl (pa_cons (pv 2) (pa_cons (pe_op op_add pe_int (pv 1)) (pa_cons pe_int pa_nil)))))
      (pss_cut (ps_par (i := 4) (j := 5) (by rfl) sc.nd rfl rfl (by decide) rfl rfl (pa_cons (pe_c N.vals hr2 rfl (pa_cons (pv 3) (pa_cons pe_int (pa_cons pe_int pa_nil)))) (pa_cons (pe_c N.vals hr2 rfl (pa_cons (pv 3) (pa_cons pe_int (pa_cons pe_int pa_nil)))) pa_nil)) (by rfl))
      (pss_cut (ps_par (i := 6) (j := 7) (by rfl) sc.nd rfl rfl (by decide) rfl rfl (pa_cons (pe_smeth (E := fun _ => E0) (pe_glob (v := .ref C) rfl Z.M.gD rfl) cr sm FO bO hr6 (fun σ => passLAt σ) (pa_cons (pv 4) pa_nil)) (pa_cons (pe_c N.draw hr1 rfl (pa_cons (pv 3) (pa_cons pe_int pa_nil))) pa_nil)) (by rfl))
      (pss_cut (ps_if (PW.pt (pw_or (pt_not (pt_val (pe_c N.shows hr7 rfl (pa_cons (pv 6) (pa_cons (pv 4) pa_nil))))) (pw_or1 (pt_not (pt_val (pe_c N.sums hr8 rfl (pa_cons (pv 4) (pa_cons (pv 5) pa_nil)))))))) (pss_one (ps_ret pe_bl)) pss_nil)
      (pss_cut (ps_set (i := 8) sc.nd rfl (Or.inl rfl) (pe_op op_rep (pe_callTy call_list_of (by rfl) T.n_list (by decide +kernel) (pa_cons (pe_c N.trim hr1 rfl (pa_cons (pv 4) pa_nil)) pa_nil)) (pv 7)))
      (pss_cut (ps_if (PW.pt (pw_or (pt_not (pt_val (pe_c N.shows hr7 rfl (pa_cons (pe_opI (op := .Mult) (E := fun _ => E0) Z.mul Z.mulO.own hr6 (fun σ => passLAt σ) (pv 6) (pv 7)) (pa_cons (pv 8) pa_nil))))) (pw_or1 (pt_not (pt_val (pe_c N.shows hr7 rfl (pa_cons (pe_mulA (E := fun _ => E0) Z.rmul Z.fMul Z.mulO.own.first Z.sInt Z.sBool hr7 (fun σ => passLAt σ) (pv 7) (pv 6)) (pa_cons (pv 8) pa_nil)))))))) (pss_one (ps_ret pe_bl)) pss_nil)
      (pss_one (ps_if (PW.pt (pw_or (pt_cmpR (op_neD hr.units) (pe_cmpR (op_eqI Z.eq Z.nf hr1) (pv 6) (pe_smeth (E := fun _ => E0) (pe_glob (v := .ref C) rfl Z.M.gD rfl) cr sm FO bO hr6 (fun σ => passLAt σ) (pa_cons (pv 5) pa_nil)) (nomark _)) (pe_cmpR (op_eqD hr.units) (pe_c N.trim hr1 rfl (pa_cons (pv 4) pa_nil)) (pe_c N.trim hr1 rfl (pa_cons (pv 5) pa_nil)) (nomark _)) (nomark _)) (pw_or1 (pt_not (pt_val (pe_d N.refused hgu hr pass0 rfl (pa_cons (pv 6) pa_nil))))))) (pss_one (ps_ret pe_bl)) pss_nil)))))))))
      (pss_one (ps_ret (pe_and (pe_cmpR (op_eqI Z.eq Z.nf hr1) (pe_makeRS (D := fun _ => E0) mk FD hr5 (fun σ => passLAt σ) rfl Z.M.gD (pa_cons pe_int (pa_cons pe_int (pa_cons pe_int pa_nil)))) (pe_makeRS (D := fun _ => E0) mk FD hr5 (fun σ => passLAt σ) rfl Z.M.gD (pa_cons pe_int pa_nil)) (nomark _)) (pe_and (pe_cmpR op_eq (pe_callB (call_lenI Z.len hr2) (by rfl) T.n_len (by decide +kernel) (pa_cons (pe_makeRS0 (D := fun _ => E0) mk FD hr5 (fun σ => passLAt σ) rfl Z.M.gD) pa_nil)) pe_int (nomark _)) (pe_one (pe_cmpR (op_neI Z.eq Z.nf Z.ne Z.ob hr2) (pe_makeRS (D := fun _ => E0) mk FD hr5 (fun σ => passLAt σ) rfl Z.M.gD (pa_cons pe_int (pa_cons pe_int pa_nil))) (pe_makeRS (D := fun _ => E0) mk FD hr5 (fun σ => passLAt σ) rfl Z.M.gD (pa_cons pe_int pa_nil)) (nomark _)))))))), ?_⟩
    refine ⟨fun τ G => Sl (.ref a) τ, ?_, ?_⟩
    rotate_left
    · rintro τ G ⟨u1, u2, u3, u4, u5, u6, u7, u8, rfl⟩
      walk_at "wp"
      refine mk_runP (ds := [.int 1, .int 0, .int 0]) (.cons (.int 1) (.cons (.int 0) (.cons (.int 0) .nil))) (by decide) (fun z => by cases z) fun _ G1 x1 e1 h1 => ?_
      refine mk_runP (ds := [.int 1]) (.cons (.int 1) .nil) (by decide) (fun z => by cases z) fun _ G2 x2 e2 h2 => ?_
      have h1 := datAt_same e2 h1
      obtain ⟨d1, t1, i1, _⟩ := id h1
      obtain ⟨d2, t2, i2, _⟩ := id h2
      refine ⟨⟨_, _, i1⟩, .inl ⟨_, _, _, rfl, i2⟩, x1, _, _, rfl, h1, .inl ⟨x2, _, rfl, h2, ?_⟩⟩
      refine ⟨_, rfl, ?_⟩
      rw [if_pos (by decide)]
      refine mk_runP (ds := []) .nil (by decide) (fun z => by cases z) fun _ G3 x3 e3 h3 => ?_
      obtain ⟨d3, t3, i3, _⟩ := id h3
      refine ⟨⟨_, _, i3⟩, x3, _, rfl, h3, _, rfl, by decide, by decide, by decide, ?_⟩
      rw [if_pos (by decide)]
      refine mk_runP (ds := [.int 0, .int 1]) (.cons (.int 0) (.cons (.int 1) .nil)) (by decide) (fun z => by cases z) fun _ G4 x4 e4 h4 => ?_
      refine mk_runP (ds := [.int 1]) (.cons (.int 1) .nil) (by decide) (fun z => by cases z) fun _ G5 x5 e5 h5 => ?_
      have h4 := datAt_same e5 h4
      obtain ⟨d4, t4, i4, _⟩ := id h4
      obtain ⟨d5, t5, i5, _⟩ := id h5
      refine ⟨⟨_, _, i4⟩, .inl ⟨_, _, _, rfl, i5⟩, x4, _, _, rfl, h4, .inl ⟨x5, _, rfl, h5, _, rfl, ?_⟩⟩
      rw [show (decide (trimZ ([PyData.int 0, PyData.int 1].map intOf) = trimZ ([PyData.int 1].map intOf))) = false by decide]
      exact k G5
    walk_at "wp"
    refine ⟨_, hS, fun p hp => ⟨by decide, fun p1 hp1 => ⟨Nat.zero_le _, fun p2 hp2 => ?_⟩⟩⟩
    have s2 : Same H (upd (upd (upd H p (.lst (cutV (ns.map V.int) none (some 8)))) p1 (.lst [.int 7])) p2 (.lst [])) := (same_new hp).trans ((same_new hp1).trans (same_new hp2))
    have np1 : p ≠ p1 := fun z => by
      rw [← z, upd_same] at hp1
      cases hp1
    have n12 : p1 ≠ p2 := fun z => by
      rw [← z, upd_same] at hp2
      cases hp2
    have np2 : p ≠ p2 := fun z => by
      rw [← z, upd_ne np1, upd_same] at hp2
      cases hp2
    have hp1' : (upd (upd (upd H p (.lst (cutV (ns.map V.int) none (some 8)))) p1 (.lst [.int 7])) p2 (.lst [])) p1 = some (.lst [.int 7]) := by rw [upd_ne n12, upd_same]
    have hp' : (upd (upd (upd H p (.lst (cutV (ns.map V.int) none (some 8)))) p1 (.lst [.int 7])) p2 (.lst [])) p = some (.lst (cutV (ns.map V.int) none (some 8))) := by rw [upd_ne np2, upd_ne np1, upd_same]
    refine ⟨.list (ns.map PyData.int), .list [], .lst (Same.sqL s2 hS) (dps_ints ns), .lst (SqL.of upd_same) .nil, shaped_ints ns, rfl, ?_⟩
    generalize upd (upd (upd H p (.lst (cutV (ns.map V.int) none (some 8)))) p1 (.lst [.int 7])) p2 (.lst []) = G0 at s2 hp1' hp'
    generalize PyData.eqv (.list (ns.map PyData.int)) (.list []) = bb
    have isI : ∀ x ∈ cutV (ns.map V.int) none (some 8), ∃ c : Int, x = .int c := fun x hx => by
      obtain ⟨c, _, rfl⟩ := List.mem_map.mp (List.mem_of_mem_drop (List.mem_of_mem_take hx))
      exact ⟨c, rfl⟩
    have lcut : (cutV (ns.map V.int) none (some 8)).length ≤ 63 := by
      have e := cutV_length (ns.map V.int) none (some 8)
      rw [List.length_map] at e
      omega
    generalize cutV (ns.map V.int) none (some 8) = cs at hp' isI lcut
    refine .inr ⟨bb, rfl, _, hp1', by split <;> decide, by split <;> decide, by have e := sizeLine_eq; split <;> simp <;> omega, fun p3 hp3 => ⟨cs, (upd_ne (ne_of_none hp' hp3)).trans hp', _, upd_same, ?_, fun L hL => ⟨⟨_, SqL.of upd_same⟩, ?_⟩⟩⟩
    · have e := sizeLine_eq
      split <;> simp <;> omega
    have tl : ∀ x ∈ (List.replicate (if bb = true then (1 : Int) else 0).toNat [V.int 7]).flatten, ∃ c : Int, x = .int c := fun x hx => by
      obtain ⟨l, hl, hx⟩ := List.mem_flatten.mp hx
      rw [List.eq_of_mem_replicate hl] at hx
      exact ⟨7, List.mem_singleton.mp hx⟩
    have ll : (List.replicate (if bb = true then (1 : Int) else 0).toNat [V.int 7]).flatten.length ≤ 1 := by
      cases bb <;> decide
    generalize (List.replicate (if bb = true then (1 : Int) else 0).toNat [V.int 7]).flatten = tail at tl ll hL
    have isX : ∀ x ∈ cs ++ tail, ∃ c : Int, x = .int c := fun x hx => by
      rcases List.mem_append.mp hx with hx | hx
      · exact isI x hx
      · exact tl x hx
    have lX : (cs ++ tail).length ≤ 64 := by
      rw [List.length_append]
      omega
    have hL0 : SqA false K (upd (upd G0 p3 (.lst tail)) L (.lst (cs ++ tail))) L (cs ++ tail) := SqL.of upd_same
    generalize upd (upd G0 p3 (.lst tail)) L (.lst (cs ++ tail)) = Gst at hL0
    generalize cs ++ tail = xs at isX lX hL0
    clear isI lcut tl ll hL hp' hp1' s2 hp hp1 hp2 np1 n12 np2 hp3
    -- over the cells
    refine loop_it (walk_enumA (t := false) (xs := xs)) (fun i τ G => Sl (.ref a) τ ∧ SqA false K G L xs) ⟨⟨_, _, _, _, _, _, _, _, rfl⟩, hL0⟩ (fun i τ G _ h => h.2) ?_ ?_
    · rintro i x τ G1 G2 hi ⟨⟨u1, u2, u3, u4, u5, u6, u7, u8, rfl⟩, hq⟩ ⟨q, y1, y2, rfl, hqq, rfl, hy1, hy2⟩
      cases hy1
      obtain ⟨c, rfl⟩ := isX y2 (List.mem_of_getElem? hy2)
      walk_at "wp"
      refine ⟨_, SqT.of upd_same, rfl, _, _, rfl, _, _, rfl, rfl, ?_⟩
      have hq2 := sqA_same (same_new (o := .tup [V.int (i : Nat), V.int c]) hqq) hq
      generalize upd G1 q (.tup [V.int (i : Nat), V.int c]) = Gs at hq2
      refine ⟨fun τ G => ∃ pp : Addr, τ = [some (.ref a), some (.int (i : Nat)), some (.int c), some (.ref pp), u4, u5, u6, u7, u8] ∧ Same Gs G ∧ Gs pp = none ∧ Pool G pp, ?_, ?_⟩
      · walk_at "wp"
        exact ⟨c, 900 + (i : Nat), 60, rfl, by omega, by omega, by decide, by decide, fun pp Gp s1 n1 P1 => ⟨pp, rfl, s1, n1, P1⟩⟩
      rintro τ G3 ⟨pp, rfl, s1, n1, P1⟩
      refine ⟨fun τ G => ∃ (a1 a2 : Addr) (fs ss : List Int), τ = [some (.ref a), some (.int (i : Nat)), some (.int c), some (.ref pp), some (.ref a1), some (.ref a2), u6, u7, u8] ∧ Same Gs G ∧ Pool G pp ∧ SqL K G a1 (fs.map V.int) ∧ SqL K G a2 (ss.map V.int) ∧ a1 ≠ pp ∧ a2 ≠ pp ∧ fs.length ≤ 12 ∧ ss.length ≤ 12 ∧ valI fs ∧ valI ss, ?_, ?_⟩
      · walk_at "wp"
        refine ⟨pp, 3, 12, rfl, P1, by decide, by decide, by decide, fun a1 fs Ga ga na ha la ra => ⟨pp, 3, 12, rfl, ga.pool, by decide, by decide, by decide, fun a2 ss Gb gb nb hb lb rb => ?_⟩⟩
        have ne1 : a1 ≠ pp := (P1.ne_none na).symm
        have ne2 : a2 ≠ pp := (ga.pool.ne_none nb).symm
        refine ⟨a1, rfl, a2, rfl, same_gr n1 (same_gr n1 s1 ga) gb, gb.pool, fs, gb.lst ne1 (SqL.of ha), ss, SqL.of hb, ne1, ne2, by omega, by omega, ⟨by omega, fun n hn => ?_⟩, ⟨by omega, fun n hn => ?_⟩⟩
        · have := ra n hn
          omega
        · have := rb n hn
          omega
      rintro τ G4 ⟨a1, a2, fs, ss, rfl, s2, P2, h1, h2, ne1, ne2, l1, l2, vf, vs⟩
      refine ⟨fun τ G => ∃ (x : Addr) (t : Int), τ = [some (.ref a), some (.int (i : Nat)), some (.int c), some (.ref pp), some (.ref a1), some (.ref a2), some (.ref x), some (.int t), u8] ∧ Same Gs G ∧ SqL K G a1 (fs.map V.int) ∧ SqL K G a2 (ss.map V.int) ∧ DatAt K C G x (trimZ fs) ∧ 0 ≤ t ∧ t < 5, ?_, ?_⟩
      · walk_at "wp"
        refine ⟨.ref a1, .list (fs.map PyData.int), rfl, .inl (.lst h1 (dps_ints _)), (fun z => by cases z), fun ds hds => ?_⟩
        cases hds
        refine ⟨by rw [List.length_map]; omega, (fun z => by rw [valsB_ints vf.1 vf.2] at z; cases z), fun _ G5 x e hx => ?_⟩
        rw [map_intOf] at hx
        have P3 := (Gr.ofSame P2 e).pool
        refine ⟨pp, 5, rfl, P3, by decide, fun t G6 t0 t5 g6 => ?_⟩
        have g := (Gr.ofSame P2 e).trans g6
        exact ⟨x, rfl, t, rfl, same_gr n1 s2 g, g.lst ne1 h1, g.lst ne2 h2, g6.dat P3 hx, t0, t5⟩
      rintro τ G5 ⟨x, t, rfl, s3, h1, h2, hx, t0, t5⟩
      have v1 := valI_trim vf
      have v2 := valI_trim vs
      have lt := trimZ_len fs
      obtain ⟨dx, tx, hxi, _⟩ := id hx
      refine ⟨fun τ G => τ = [some (.ref a), some (.int (i : Nat)), some (.int c), some (.ref pp), some (.ref a1), some (.ref a2), some (.ref x), some (.int t), u8] ∧ Same G5 G, ?_, ?_⟩
      · walk_at "wp"
        refine ⟨x, a1, _, fs, rfl, hx, .inl h1, rfl, by omega, v1, fun G6 e6 => ⟨true, rfl, ?_⟩⟩
        rw [if_neg (show ¬ (!true) = true from Bool.false_ne_true)]
        refine ⟨a1, a2, fs, ss, rfl, Same.sqL e6 h1, Same.sqL e6 h2, vf, vs, by omega, by omega, fun G7 e7 => ⟨true, rfl, ?_⟩⟩
        rw [if_neg (show ¬ (!true) = true from Bool.false_ne_true)]
        exact e6.trans e7
      rintro τ G6 ⟨rfl, s4⟩
      have t4 : t.toNat ≤ 4 := by omega
      have lenL : (List.replicate t.toNat (trimZ fs)).flatten.length ≤ 48 := by
        rw [rep_len]
        exact Nat.le_trans (Nat.mul_le_mul (Nat.le_trans lt l1) t4) (by decide)
      refine ⟨fun τ G => ∃ u, τ = [some (.ref a), some (.int (i : Nat)), some (.int c), some (.ref pp), some (.ref a1), some (.ref a2), some (.ref x), some (.int t), some (.ref u)] ∧ Same G6 G ∧ SqL K G u ((List.replicate t.toNat (trimZ fs)).flatten.map V.int), ?_, ?_⟩
      · walk_at "wp"
        refine ⟨a1, fs, rfl, .inl (Same.sqL s4 h1), by omega, fun t1 G7 e7 ht => ⟨t1, rfl, _, .inr ht, fun l hl => ?_⟩⟩
        refine ⟨_, upd_same, by omega, by omega, ?_, fun q hq => ⟨(e7.trans (same_new hl)).trans (same_new hq), ?_⟩⟩
        · rw [List.length_map, sizeLine_eq]
          exact Nat.le_trans (Nat.mul_le_mul (Nat.le_trans lt l1) t4) (by decide)
        · rw [← rep_map]
          exact SqL.of upd_same
      rintro τ G7 ⟨u, rfl, s5, hu⟩
      have s57 := s4.trans s5
      have vL : valI (trimZ (List.replicate t.toNat (trimZ fs)).flatten) := valI_trim ⟨by omega, fun n hn => v1.2 n (rep_mem hn)⟩
      have mul : ∀ (G : Hp) (Q' : VK) (F : XK), Same G7 G → dataQ K C (trimZ (List.replicate t.toNat (trimZ fs)).flatten) G Q' → spMulD K C cB cN [V.ref x, V.int t] G Q' F := fun G Q' F e q =>
        ⟨x, trimZ fs, _, .int t, rfl, datAt_same (s57.trans e) hx, v1, .int t, (fun z => by rw [show btw (.int t) 0 60 = true from (btw60 t0 t5)] at z; cases z), fun _ => ⟨fun z => absurd (Nat.le_trans (Nat.mul_le_mul (Nat.le_trans lt l1) t4) (by decide)) z, fun _ => q⟩⟩
      have shw : ∀ (G : Hp) (z : Addr) (Q' : VK) (F : XK), Same G7 G → DatAt K C G z (trimZ (List.replicate t.toNat (trimZ fs)).flatten) → (∀ G', Same G G' → Q' (.bl true) G') → spShows K C [V.ref z, V.ref u] G Q' F := fun G z Q' F e hz q =>
        ⟨z, u, _, _, rfl, hz, .inl (Same.sqL e hu), rfl, by omega, vL, q⟩
      refine ⟨fun τ G => τ = [some (.ref a), some (.int (i : Nat)), some (.int c), some (.ref pp), some (.ref a1), some (.ref a2), some (.ref x), some (.int t), some (.ref u)] ∧ Same G7 G, ?_, ?_⟩
      · walk_at "wp"
        refine ⟨⟨_, _, s57 _ _ hxi⟩, ⟨_, ty_dp (.int t), Z.mulO.of _⟩, mul _ _ _ (Same.refl _) fun G8 z e8 hz => shw G8 z _ _ e8 hz fun G9 e9 => ⟨true, rfl, ?_⟩⟩
        rw [if_neg (show ¬ (!true) = true from Bool.false_ne_true)]
        have e89 := e8.trans e9
        refine ⟨⟨_, _, (s57.trans e89) _ _ hxi⟩, .inl ⟨_, rfl⟩, mul _ _ _ e89 fun G10 z2 e10 hz2 => shw G10 z2 _ _ (e89.trans e10) hz2 fun G11 e11 => ⟨true, rfl, ?_⟩⟩
        rw [if_neg (show ¬ (!true) = true from Bool.false_ne_true)]
        exact (e89.trans e10).trans e11
      rintro τ G8 ⟨rfl, s6⟩
      have s58 := s57.trans s6
      walk_at "wp"
      refine ⟨.ref a2, .list (ss.map PyData.int), rfl, .inl (.lst (Same.sqL s58 h2) (dps_ints _)), (fun z => by cases z), fun ds hds => ?_⟩
      cases hds
      refine ⟨by rw [List.length_map]; omega, (fun z => by rw [valsB_ints vs.1 vs.2] at z; cases z), fun _ G9 y e hy => ?_⟩
      rw [map_intOf] at hy
      obtain ⟨dy, ty, hyi, _⟩ := id hy
      have s59 := s58.trans e
      have hx9 := datAt_same s59 hx
      refine ⟨⟨_, _, s59 _ _ hxi⟩, .inl ⟨_, _, _, rfl, hyi⟩, x, _, _, rfl, hx9, .inl ⟨y, _, rfl, hy, ⟨_, rfl, ?_⟩⟩⟩
      refine ⟨a1, fs, rfl, .inl (Same.sqL s59 h1), by omega, fun t1 G10 e10 ht1 => ⟨a2, ss, rfl, .inl (Same.sqL (s59.trans e10) h2), by omega, fun t2 G11 e11 ht2 => ?_⟩⟩
      refine ⟨_, _, .tup (Same.sqT e11 ht1) (dps_ints _), .tup ht2 (dps_ints _), shaped_intsT _, shaped_intsT _, ?_⟩
      rw [eqv_intsT]
      refine ⟨_, _, .bl _, .bl _, rfl, rfl, false, ?_, ?_⟩
      · cases decide (trimZ fs = trimZ ss) <;> rfl
      rw [if_neg Bool.false_ne_true]
      refine ⟨x, _, rfl, datAt_same (e10.trans e11) hx9, v1, fun G12 e12 => ⟨true, rfl, ?_⟩⟩
      rw [if_neg (show ¬ (!true) = true from Bool.false_ne_true)]
      have sE := (s59.trans e10).trans (e11.trans e12)
      exact ⟨⟨_, _, _, _, _, _, _, _, rfl⟩, sqA_same (s3.trans sE) hq2⟩
    · rintro τ G ⟨h, _⟩
      exact h
end
end YY

set_option maxRecDepth 100000
set_option maxHeartbeats 4000000
namespace YY
open PySem PySem.Spec PyProof.Rows L2 XX
/-! ### the end: what the top has written -/
theorem exm_of {K : PySem.W.Frag} {S C : Addr} {b : Bool} (h1 : PySem.W.subIn K (.ref C) (.type "BaseException") = some true) (h2 : PySem.W.isClsIn K C = true) (h3 : PySem.W.typeIn K (.ref C) = some (.type "type")) (h4 : PySem.W.subIn K (.ref S) (.ref C) = some b) : PySem.W.exmOne K (.ref S) (.ref C) = some b := by
  have e1 : (PySem.W.subIn K (.ref C) (.type "BaseException") == some true) = true := by rw [h1]; rfl
  have e2 : ((PySem.W.clsIn K C).isSome && PySem.W.typeIn K (.ref C) == some (.type "type")) = true := by
    have e3 : (PySem.W.clsIn K C).isSome = true := h2
    rw [e3, h3]
    rfl
  unfold PySem.W.exmOne
  rw [if_pos e1]
  show (if ((PySem.W.clsIn K C).isSome && PySem.W.typeIn K (.ref C) == some (.type "type")) = true then PySem.W.subIn K (.ref S) (.ref C) else none) = some b
  rw [if_pos e2]
  exact h4
/-- of an error class: what stands there -/
theorem err_mk {K : PySem.W.Frag} {h : Heap} {mg : Str → Option Value} {x : Str} {C fI : Addr} {nm q : Str} {N : Addr} {bs bm : List Value} {sn : List Str} {sub : List Value} {ab : Bool} {col : Option Bool} {dd : Option Addr} {m0 m1 m2 m3 m5 : Option Value} (X : K.In h) (G : h.Ns mainGlobals mg)
    (aC : PySem.W.nsIn K mainGlobals x = some (some (.ref C))) (xL : K.lookup C = some (excClassObj nm q C N bs bm true sn sub ab col dd m0 m1 m2 m3 m5 "ValueError.__new__")) (bmr : PySem.HandSPX.refsVE bm = true)
    (sa : PySem.W.findIn K (.ref C) "__setattr__" = some (some (.builtin "object.__setattr__"))) (ga : PySem.W.findIn K (.ref C) "__getattribute__" = some (some (.builtin "BaseException.__getattribute__"))) (gg : PySem.W.findIn K (.ref C) "__getattr__" = some none)
    (no : PySem.W.findIn K (.ref C) "value" = some none) (ini : PySem.W.findIn K (.ref C) "__init__" = some (some (.ref fI))) (tI : PySem.W.typeIn K (.ref fI) = some (.type "function")) (kC : PySem.W.keepIn K (.ref C) = true)
    (eC : PySem.W.subIn K (.ref C) (.type "BaseException") = some true) (tC : PySem.W.typeIn K (.ref C) = some (.type "type")) (hC : PySem.W.hasDictIn K C = true) : ErrC K mg x C fI :=
  ⟨PySem.W.mg_of X G aC, ⟨⟨nm, q, N, bs, bm, sn, sub, ab, col, dd, m0, m1, m2, m3, m5, xL, bmr⟩, sa, eC, tC, kC⟩, ⟨ga, gg, eC, hC⟩, ini, tI, no⟩
/-- the defs of the text, each under its name -/
structure Defs (K : PySem.W.Frag) (mg : Str → Option Value) : Prop where
  d1 : Def K mg "is_whole" sIsWhole ["value"]
  d2 : Def K mg "is_between" sIsBetween ["value", "least", "most"]
  d3 : Def K mg "are_values" sAreV ["values"]
  d4 : Def K mg "without_zeros" sWoZ ["values"]
  d5 : Def K mg "_values_of" sValOf ["other"]
  d7 : Def K mg "_law_numbers" sNumbers ["cell", "salt", "sizes"]
  d8 : Def K mg "_law_pool" sPool ["cell", "salt", "many"]
  d9 : Def K mg "_law_draw" sDraw ["pool", "many"]
  d10 : Def K mg "_law_values" sValues ["pool", "size", "top"]
  d11 : Def K mg "_law_trimmed" sTrimmed ["some"]
  d12 : Def K mg "_law_shows" sShows ["data", "some"]
  d13 : Def K mg "_law_heard" sHeard ["way", "data", "thing"]
  d14 : Def K mg "_law_sums_right" sSums ["first", "second"]
  d15 : Def K mg "_law_refused" sRefused ["data"]
/-- the methods of Data -/
structure MDefs (K : PySem.W.Frag) (C : Addr) : Prop where
  m1 : DefM K C "__eq__" "Data.__eq__" sEqD ["self", "other"]
  m2 : DefM K C "__len__" "Data.__len__" sLenD ["self"]
  m3 : DefM K C "__repr__" "Data.__repr__" sReprD ["self"]
  m4 : DefM K C "__getitem__" "Data.__getitem__" sGetD ["self", "index"]
  m5 : DefM K C "__add__" "Data.__add__" sAddD ["self", "other"]
  m6 : DefM K C "__radd__" "Data.__radd__" sRaddD ["self", "other"]
  m7 : DefM K C "__mul__" "Data.__mul__" sMulD ["self", "other"]
  m8 : DefM K C "__rmul__" "Data.__rmul__" sRmulD ["self", "other"]
theorem methd_mk {K : PySem.W.Frag} {C f : Addr} {m q : Str} {st : Stmt} {ps : List Str} {oc : Value} {od an : Option Addr} {osl : Array (Option Value)} {kV dc pm cd ct : Value} (a : PySem.W.findIn K (.ref C) m = some (some (.ref f))) (i : PySem.W.isFn K (.ref f) = true) (kp : PySem.W.keepIn K (.ref f) = true)
    (l : K.lookup f = some ⟨oc, od, .func (PySem.W.fnOf m q (defArgs st) (defBody st) (defScope st) .none kV dc pm an cd ct), osl⟩) (c : PySem.W.codeIn K cd q = true)
    (hb : ∀ (kV doc pm : Value) (an : Option Addr) (cdv ct : Value) (us : List Value), us.length = ps.length → bindArgs (PySem.W.fnOf m q (defArgs st) (defBody st) (defScope st) .none kV doc pm an cdv ct) ⟨us, []⟩ = pure (ps.zip us)) : DefM K C m q st ps :=
  ⟨f, _, fun_mk l c kp, ⟨a, i, kp⟩, (fun_mk l c kp).binds hb⟩
theorem opc_add {K : PySem.W.Frag} {C g : Addr} (f : PySem.W.selfFirst K C = true) (h : PySem.W.findIn K (.ref C) "__radd__" = some (some (.ref g))) : OpC K C .Add := ⟨f, _, h, .inr ⟨_, rfl⟩⟩
theorem opc_mul {K : PySem.W.Frag} {C g : Addr} (f : PySem.W.selfFirst K C = true) (h : PySem.W.findIn K (.ref C) "__rmul__" = some (some (.ref g))) : OpC K C .Mult := ⟨f, _, h, .inr ⟨_, rfl⟩⟩
theorem opt_add {K : PySem.W.Frag} {C : Addr} {T : String} {fo ro : Option Value} (a : PySem.W.findIn K (.type T) "__add__" = some fo) (b : PySem.W.findIn K (.type T) "__radd__" = some ro) (s : PySem.W.subIn K (.type T) (.ref C) = some false) : OpT K C .Add T := ⟨⟨_, _, a, b⟩, s⟩
theorem opt_mul {K : PySem.W.Frag} {C : Addr} {T : String} {fo ro : Option Value} (a : PySem.W.findIn K (.type T) "__mul__" = some fo) (b : PySem.W.findIn K (.type T) "__rmul__" = some ro) (s : PySem.W.subIn K (.type T) (.ref C) = some false) : OpT K C .Mult T := ⟨⟨_, _, a, b⟩, s⟩
theorem opn_add {K : PySem.W.Frag} {T : String} {fo ro : Option Value} (a : PySem.W.findIn K (.type T) "__add__" = some fo) (b : PySem.W.findIn K (.type T) "__radd__" = some ro) (s : ((fo.isSome && !isSeqSlot fo) || (ro.isSome && !isSeqSlot ro)) = false) : OpN K .Add T := ⟨_, _, a, b, s⟩
theorem opn_mul {K : PySem.W.Frag} {T : String} {fo ro : Option Value} (a : PySem.W.findIn K (.type T) "__mul__" = some fo) (b : PySem.W.findIn K (.type T) "__rmul__" = some ro) (s : ((fo.isSome && !isSeqSlot fo) || (ro.isSome && !isSeqSlot ro)) = false) : OpN K .Mult T := ⟨_, _, a, b, s⟩
/-- of the class Data -/
structure DatX (K : PySem.W.Frag) (mg : Str → Option Value) (C fD gO : Addr) (gdO : FuncData) : Prop where
  gD : mg "Data" = some (.ref C)
  mkk : Mk K C fD
  dc : DatC K C
  fd : ∃ (doc pm cdv ct oc kV : Value) (an od : Option Addr) (osl : Array (Option Value)), K.lookup fD = some ⟨oc, od, .func (PySem.W.fnOf "__init__" "Data.__init__" (defArgs sDInit) (defBody sDInit) (defScope sDInit) .none kV doc pm an cdv ct), osl⟩ ∧ PySem.W.codeIn K cdv "Data.__init__" = true
  fo : L2.Fun K "of" "Data.of" sOf gO gdO
  of : ∃ mc p, ClX.CRead K C mc ∧ SMet K C mc "of" p gO
  ic : IsC K C
  nd : NoD K C
  addO : OpAll K C .Add
  mulO : OpAll K C .Mult
  raL : OpN K .Add "list"
  raT : OpN K .Add "tuple"
  rmN : OpN K .Mult "NoneType"
  rmS : OpN K .Mult "str"
  fAdd : ∃ f0 : Addr, PySem.W.findIn K (.ref C) "__add__" = some (some (.ref f0))
  fMul : ∃ f0 : Addr, PySem.W.findIn K (.ref C) "__mul__" = some (some (.ref f0))
  sInt : PySem.W.subIn K (.ref C) (.type "int") = some false
  sBool : PySem.W.subIn K (.ref C) (.type "bool") = some false
  nf : PySem.W.notFirst K C (.type "tuple") = true
  ne : PySem.W.findIn K (.ref C) "__ne__" = some (some (.builtin "object.__ne__"))
  ob : PySem.W.subIn K (.ref C) (.type "object") = some true
  fi : ∀ f, PySem.W.findIn K (.ref C) "__getitem__" = some (some (.ref f)) → PySem.W.fnIn K f = true
theorem all_ok {P : Program} {w : World} {K : PySem.W.Frag} {mg : Str → Option Value} {base : Heap} {f fI C fD gO cB cN : Addr} {fd fdI gdO : FuncData} {k1 k2 : Tok} (D : Defs K mg) (T : Bl2 mg) (n_repr : mg "repr" = none)
    (gM : mg "MOST_VALUES" = some (.int 60 k1)) (gE : mg "_MESSAGE" = some (.str "the attribute value tells what this is about" k2)) (nV : mg "ValueError" = none)
    (vV : PySem.W.findCls K (.type "ValueError") (.type "type") "__init__" = some (.val (.builtin "ValueError.__init__"))) (FI : L2.Fun K "__init__" "LanesError.__init__" sErrInit fI fdI) (EB : ErrC K mg "BadData" cB fI) (EN : ErrC K mg "BadNumber" cN fI) (X2 : Exm2 K cB cN)
    (DX : DatX K mg C fD gO gdO) (MM : MDefs K C) (F : L2.Fun K "law" "law" sLaw f fd) :
    FnG P w K mg base CX0 10 f fd ["script"] (spLaw K) := by
  have bI : Binds K fdI ["self", "value"] [] := FI.binds (ps := ["self", "value"]) fun _ _ _ _ _ _ us hl => match us, hl with | [_, _], _ => rfl
  have bO : Binds K gdO ["values"] [] := DX.fo.binds (ps := ["values"]) fun _ _ _ _ _ _ us hl => match us, hl with | [_], _ => rfl
  have e1 : FnOk P w K mg base CX0 1 fI fdI ["self", "value"] (spErr K) := c_errInit FI nV gE vV
  have dc := DX.dc
  have c1 := c_isWhole (P := P) (w := w) (base := base) D.d1 T
  have c2 := c_isBetween (P := P) (w := w) (base := base) D.d2 T
  have c3 := c_areV D.d3 T gM c2
  have c4 := c_woZ (P := P) (w := w) (base := base) D.d4 T T.n_len
  obtain ⟨doc, pm, cdv, ct, oc, kV, an, od, osl, lk, hcd⟩ := DX.fd
  have FD := fn_DI (P := P) (w := w) (base := base) dc EB e1 bI c3 c4 lk hcd (StX.bind_star1 (B := fun vs => bindArgs (PySem.W.fnOf "__init__" "Data.__init__" (defArgs sDInit) (defBody sDInit) (defScope sDInit) .none kV doc pm an cdv ct) ⟨vs, []⟩) (fun a => rfl) (fun a r rs => rfl))
  have M : DatM P w K mg base C cB := ⟨dc, DX.gD, fD, DX.mkk, FD⟩
  have c5 := c_valOf D.d5 T T.n_len dc DX.gD DX.ic DX.nd EB e1 bI c3
  have cO := c_of DX.fo T M EB e1 bI
  have m1 := c_eqD (P := P) (w := w) (base := base) MM.m1 T dc DX.gD DX.ic DX.nd
  have m2 := c_lenD (P := P) (w := w) (base := base) MM.m2 T dc
  have m3 := c_reprD (P := P) (w := w) (base := base) MM.m3 T T.n_str dc
  have m4 := c_getD MM.m4 T dc EN e1 bI c1
  have m5 := c_addD MM.m5 T T.n_len M EB gM e1 bI c5
  have m6 := c_raddD MM.m6 T M EB gM e1 bI c5 c4
  have m7 := c_mulD MM.m7 T M EB EN gM e1 bI c2
  have m8 := c_rmulD MM.m8 DX.mulO m7
  obtain ⟨mc, p, cr, sm⟩ := DX.of
  have Z : DMeths P w K mg base C cB cN := ⟨M, DX.ic, DX.nd, m1, m2, m3, m4, m5, m6, m7, m8, ⟨mc, p, gO, gdO, cr, sm, cO, bO⟩, DX.addO, DX.mulO, DX.raL, DX.raT, DX.rmN, DX.rmS, DX.fAdd, DX.fMul, DX.sInt, DX.sBool, DX.nf, DX.ne, DX.ob, DX.fi⟩
  have c7 := c_numbers (P := P) (w := w) (base := base) D.d7 T.toBl
  have c8 := c_pool D.d8 T.toBl c7
  have c9 := c_draw (P := P) (w := w) (K := K) (base := base) D.d9 T.toBl
  have c10 := c_values D.d10 T c9
  have c11 := c_trimmed (P := P) (w := w) (base := base) D.d11 T
  have c12 := c_shows D.d12 T T.n_str n_repr Z c11
  have c13 := c_heard D.d13 T n_repr Z EB EN X2
  have c14 := c_sums D.d14 T Z c11 c12
  have c15 := c_refused D.d15 T n_repr Z c13
  exact c_law F T Z ⟨c8, c9, c10, c11, c12, c14, c15⟩
theorem walk {l : PySem.W.OpenLaw} {q : Program} {loose : List Str} {XP : (Str → Option Value) → Heap → Prop} {YP : World → Heap → Prop} {d : DefRec} {K : Params → PySem.W.Frag} (hn : l.most = some 63) (hdf : d.params.defaults = []) (hY : ∀ (w : World) (h : Heap), YP w h → (K w.params).In h)
    (F : ∀ (w : World) (mg : Str → Option Value) (fa : Addr) (h : Heap), (K w.params).In h → h.Ns mainGlobals mg → mg d.name = some (.ref fa) →
      ∃ fd : FuncData, (∀ (s : Shared) (u : Value), BindsTo s fd ⟨[u], []⟩ [("script", u)]) ∧ ∀ base : Heap, (K w.params).In base → base.Ns mainGlobals mg → FnG l.prog w (K w.params) mg base CX0 10 fa fd ["script"] (spLaw (K w.params))) :
    PySem.W.WalkO q loose XP YP l.row.toRowW d [] (fun f vs => PySem.call f vs) :=
  walk_ofG (n := 63) (k := 10) (x := "script") (CX := fun _ => CX0) (sp := spLaw) hn (by decide) hdf ⟨rfl, by decide, by decide⟩ hY F (fun _ _ a ns hl _ hS => ⟨a, ns, rfl, hl, hS, fun _ => rfl⟩) fun _ _ _ _ _ z => z
theorem fin {P : Program} {w : World} {K : PySem.W.Frag} {h : Heap} {mg : Str → Option Value} {fa : Addr} (KX : K.In h) (G : h.Ns mainGlobals mg) (hmg : mg "law" = some (.ref fa)) (D : Defs K mg) (T : Bl2 mg) (n_repr : mg "repr" = none) (nV : mg "ValueError" = none)
    (vV : PySem.W.findCls K (.type "ValueError") (.type "type") "__init__" = some (.val (.builtin "ValueError.__init__"))) (gC : ∃ k1 k2, mg "MOST_VALUES" = some (.int 60 k1) ∧ mg "_MESSAGE" = some (.str "the attribute value tells what this is about" k2))
    (ER : ∃ fI fdI cB cN, L2.Fun K "__init__" "LanesError.__init__" sErrInit fI fdI ∧ ErrC K mg "BadData" cB fI ∧ ErrC K mg "BadNumber" cN fI ∧ Exm2 K cB cN)
    (PR : ∃ C fD gO gdO, DatX K mg C fD gO gdO ∧ MDefs K C)
    (LW : ∃ f fd, L2.Fun K "law" "law" sLaw f fd ∧ mg "law" = some (.ref f) ∧ ∀ (s : Shared) (u : Value), BindsTo s fd ⟨[u], []⟩ [("script", u)]) :
    ∃ fd : FuncData, (∀ (s : Shared) (u : Value), BindsTo s fd ⟨[u], []⟩ [("script", u)]) ∧ ∀ base : Heap, K.In base → base.Ns mainGlobals mg → FnG P w K mg base CX0 10 fa fd ["script"] (spLaw K) := by
  obtain ⟨k1, k2, g1, g2⟩ := gC
  obtain ⟨fI, fdI, cB, cN, FI, EB, EN, X2⟩ := ER
  obtain ⟨C, fD, gO, gdO, DX, MM⟩ := PR
  obtain ⟨f, fd, F, hf, hb⟩ := LW
  have e := hmg.symm.trans hf
  cases e
  exact ⟨fd, hb, fun base _ _ => all_ok D T n_repr g1 g2 nV vV FI EB EN X2 DX MM F⟩
theorem law_mk {K : PySem.W.Frag} {h : Heap} {mg : Str → Option Value} {f : Addr} {oc : Value} {od an : Option Addr} {osl : Array (Option Value)} {kV dc pm cd ct : Value} (X : K.In h) (G : h.Ns mainGlobals mg) (a : PySem.W.nsIn K mainGlobals "law" = some (some (.ref f)))
    (l : K.lookup f = some ⟨oc, od, .func (PySem.W.fnOf "law" "law" (defArgs sLaw) (defBody sLaw) (defScope sLaw) .none kV dc pm an cd ct), osl⟩) (c : PySem.W.codeIn K cd "law" = true) (kp : PySem.W.keepIn K (.ref f) = true) :
    ∃ f fd, L2.Fun K "law" "law" sLaw f fd ∧ mg "law" = some (.ref f) ∧ ∀ (s : Shared) (u : Value), BindsTo s fd ⟨[u], []⟩ [("script", u)] :=
  ⟨f, _, fun_mk (st := sLaw) l c kp, PySem.W.mg_of X G a, fun s v => .of_eq rfl⟩
theorem cons_mk {K : PySem.W.Frag} {h : Heap} {mg : Str → Option Value} {k1 k2 : Tok} (X : K.In h) (G : h.Ns mainGlobals mg) (a1 : PySem.W.nsIn K mainGlobals "MOST_VALUES" = some (some (.int 60 k1))) (a2 : PySem.W.nsIn K mainGlobals "_MESSAGE" = some (some (.str "the attribute value tells what this is about" k2))) :
    ∃ k1 k2, mg "MOST_VALUES" = some (.int 60 k1) ∧ mg "_MESSAGE" = some (.str "the attribute value tells what this is about" k2) := ⟨k1, k2, PySem.W.mg_of X G a1, PySem.W.mg_of X G a2⟩
/-- of an error class, what the clauses ask -/
structure ErrX (K : PySem.W.Frag) (C : Addr) : Prop where
  e : PySem.W.subIn K (.ref C) (.type "BaseException") = some true
  i : PySem.W.isClsIn K C = true
  t : PySem.W.typeIn K (.ref C) = some (.type "type")
theorem errs_mk {K : PySem.W.Frag} {h : Heap} {mg : Str → Option Value} {fI cB cN : Addr} {oc : Value} {od an : Option Addr} {osl : Array (Option Value)} {kV dc pm cd ct : Value} (X : K.In h) (G : h.Ns mainGlobals mg)
    (B : ErrC K mg "BadData" cB fI) (N : ErrC K mg "BadNumber" cN fI) (xB : ErrX K cB) (xN : ErrX K cN)
    (l : K.lookup fI = some ⟨oc, od, .func (PySem.W.fnOf "__init__" "LanesError.__init__" (defArgs sErrInit) (defBody sErrInit) (defScope sErrInit) .none kV dc pm an cd ct), osl⟩) (c : PySem.W.codeIn K cd "LanesError.__init__" = true) (kp : PySem.W.keepIn K (.ref fI) = true)
    (s1 : PySem.W.subIn K (.ref cB) (.ref cB) = some true) (s2 : PySem.W.subIn K (.ref cN) (.ref cB) = some false) (s3 : PySem.W.subIn K (.ref cN) (.ref cN) = some true) :
    ∃ fI fdI cB cN, L2.Fun K "__init__" "LanesError.__init__" sErrInit fI fdI ∧ ErrC K mg "BadData" cB fI ∧ ErrC K mg "BadNumber" cN fI ∧ Exm2 K cB cN :=
  ⟨fI, _, cB, cN, fun_mk (st := sErrInit) l c kp, B, N, ⟨exm_of xB.e xB.i xB.t s1, exm_of xB.e xB.i xB.t s2, exm_of xN.e xN.i xN.t s3⟩⟩
theorem kit_no {K : PySem.W.Frag} {C : Addr} (T : String) (h2 : PySem.W.isClsIn K C = true) (h3 : PySem.W.typeIn K (.ref C) = some (.type "type")) (h4 : PySem.W.subIn K (.type T) (.ref C) = some false) : PySem.W.kitOne K (.type T) (.ref C) = some false := by
  have e2 : ((PySem.W.clsIn K C).isSome && PySem.W.typeIn K (.ref C) == some (.type "type")) = true := by
    have e3 : (PySem.W.clsIn K C).isSome = true := h2
    rw [e3, h3]
    rfl
  show (if (Value.type T == Value.ref C) = true then some true else if ((PySem.W.clsIn K C).isSome && PySem.W.typeIn K (.ref C) == some (.type "type")) = true then PySem.W.subIn K (.type T) (.ref C) else none) = some false
  rw [if_neg (by simp), if_pos e2]
  exact h4
theorem dat_mk {K : PySem.W.Frag} {h : Heap} {mg : Str → Option Value} {C fD gO pO fG fA fM : Addr} {oc oc2 : Value} {od an od2 an2 : Option Addr} {osl osl2 : Array (Option Value)} {kV dc pm cd ct kV2 dc2 pm2 cd2 ct2 : Value} {rest : List Value} (X : K.In h) (G : h.Ns mainGlobals mg) (aP : PySem.W.nsIn K mainGlobals "Data" = some (some (.ref C)))
    (mk : PySem.W.makesIn K C = true) (a1 : PySem.W.findIn K (.ref C) "__init__" = some (some (.ref fD))) (i1' : PySem.W.isFn K (.ref fD) = true) (kc : PySem.W.keepIn K (.ref C) = true)
    (pg : PySem.W.plainGet K C Str.empty = true) (hd : PySem.W.hasDictIn K C = true) (po : PySem.W.plainOver K C = true) (sa : PySem.W.findIn K (.ref C) "__setattr__" = some (some (.builtin "object.__setattr__")))
    (n1 : PySem.W.findIn K (.ref C) "digits" = some none)
    (l : K.lookup fD = some ⟨oc, od, .func (PySem.W.fnOf "__init__" "Data.__init__" (defArgs sDInit) (defBody sDInit) (defScope sDInit) .none kV dc pm an cd ct), osl⟩) (c : PySem.W.codeIn K cd "Data.__init__" = true)
    (rd : PySem.W.readsIn K C (.type "type") = true) (ga : PySem.W.specialIn K (.ref C) "__getattribute__" = some (some (.builtin "type.__getattribute__"))) (at_ : PySem.W.findCls K (.ref C) (.type "type") "of" = some (.get (.builtin "staticmethod.__get__") (.ref pO) .none (.ref C))) (rc : PySem.W.recIn K pO "staticmethod" = some (.ref gO :: rest)) (kO : PySem.W.keepIn K (.ref gO) = true)
    (l2 : K.lookup gO = some ⟨oc2, od2, .func (PySem.W.fnOf "of" "Data.of" (defArgs sOf) (defBody sOf) (defScope sOf) .none kV2 dc2 pm2 an2 cd2 ct2), osl2⟩) (c2 : PySem.W.codeIn K cd2 "Data.of" = true)
    (ic : IsC K C) (nd : NoD K C) (addO : OpAll K C .Add) (mulO : OpAll K C .Mult) (raL : OpN K .Add "list") (raT : OpN K .Add "tuple") (rmN : OpN K .Mult "NoneType") (rmS : OpN K .Mult "str")
    (fA_ : PySem.W.findIn K (.ref C) "__add__" = some (some (.ref fA))) (fM_ : PySem.W.findIn K (.ref C) "__mul__" = some (some (.ref fM)))
    (sI : PySem.W.subIn K (.ref C) (.type "int") = some false) (sB : PySem.W.subIn K (.ref C) (.type "bool") = some false) (nf : PySem.W.notFirst K C (.type "tuple") = true) (ne : PySem.W.findIn K (.ref C) "__ne__" = some (some (.builtin "object.__ne__"))) (ob : PySem.W.subIn K (.ref C) (.type "object") = some true)
    (gi : PySem.W.findIn K (.ref C) "__getitem__" = some (some (.ref fG))) (gf : PySem.W.fnIn K fG = true) (MM : MDefs K C) : ∃ C fD gO gdO, DatX K mg C fD gO gdO ∧ MDefs K C :=
  ⟨C, fD, gO, _, ⟨PySem.W.mg_of X G aP, ⟨mk, a1, i1', kc⟩, ⟨⟨pg, hd, po, sa⟩, n1⟩, ⟨_, _, _, _, _, _, _, _, _, l, c⟩, fun_mk (st := sOf) l2 c2 kO, ⟨_, pO, ⟨rd, ga⟩, ⟨at_, ⟨rest, rc⟩, kO⟩⟩, ic, nd, addO, mulO, raL, raT, rmN, rmS, ⟨_, fA_⟩, ⟨_, fM_⟩, sI, sB, nf, ne, ob, fun f hf => by
    rw [gi] at hf
    cases hf
    exact gf⟩, MM⟩
end YY

open PySem PySem.W PyProof.Rows
set_option maxRecDepth 100000 in
set_option maxHeartbeats 0 in
theorem PySem.Challenge.cw_partedlanes_k09_data_as_values_holds : PySem.Challenge.rw_partedlanes_k09_data_as_values.Holds := by
  w_on; o_law; k_head; (case hw => w_witness2)
  k_fill
  refine YY.walk (l := PySem.Challenge.rw_partedlanes_k09_data_as_values) rfl rfl (fun w h Y => PySem.W.kIn_of Y) ?F
  case F =>
    intro w mg fa h KX G hmg
    refine' YY.fin KX G hmg ?D ?T ?nrepr ?nV ?vV ?gC ?ER ?PR ?LW
    case D =>
      constructor
      · refine' XX.def_mk (x := "is_whole") (st := YY.sIsWhole) KX G ?a ?l ?c ?k (fun _ _ _ _ _ _ us hl => match us, hl with | [_], _ => rfl)
        (case a => k_is); (case l => k_is); (case c => k_is); (case k => k_is)
      · refine' XX.def_mk (x := "is_between") (st := YY.sIsBetween) KX G ?a ?l ?c ?k (fun _ _ _ _ _ _ us hl => match us, hl with | [_, _, _], _ => rfl)
        (case a => k_is); (case l => k_is); (case c => k_is); (case k => k_is)
      · refine' XX.def_mk (x := "are_values") (st := YY.sAreV) KX G ?a ?l ?c ?k (fun _ _ _ _ _ _ us hl => match us, hl with | [_], _ => rfl)
        (case a => k_is); (case l => k_is); (case c => k_is); (case k => k_is)
      · refine' XX.def_mk (x := "without_zeros") (st := YY.sWoZ) KX G ?a ?l ?c ?k (fun _ _ _ _ _ _ us hl => match us, hl with | [_], _ => rfl)
        (case a => k_is); (case l => k_is); (case c => k_is); (case k => k_is)
      · refine' XX.def_mk (x := "_values_of") (st := YY.sValOf) KX G ?a ?l ?c ?k (fun _ _ _ _ _ _ us hl => match us, hl with | [_], _ => rfl)
        (case a => k_is); (case l => k_is); (case c => k_is); (case k => k_is)
      · refine' XX.def_mk (x := "_law_numbers") (st := YY.sNumbers) KX G ?a ?l ?c ?k (fun _ _ _ _ _ _ us hl => match us, hl with | [_, _, _], _ => rfl)
        (case a => k_is); (case l => k_is); (case c => k_is); (case k => k_is)
      · refine' XX.def_mk (x := "_law_pool") (st := YY.sPool) KX G ?a ?l ?c ?k (fun _ _ _ _ _ _ us hl => match us, hl with | [_, _, _], _ => rfl)
        (case a => k_is); (case l => k_is); (case c => k_is); (case k => k_is)
      · refine' XX.def_mk (x := "_law_draw") (st := YY.sDraw) KX G ?a ?l ?c ?k (fun _ _ _ _ _ _ us hl => match us, hl with | [_, _], _ => rfl)
        (case a => k_is); (case l => k_is); (case c => k_is); (case k => k_is)
      · refine' XX.def_mk (x := "_law_values") (st := YY.sValues) KX G ?a ?l ?c ?k (fun _ _ _ _ _ _ us hl => match us, hl with | [_, _, _], _ => rfl)
        (case a => k_is); (case l => k_is); (case c => k_is); (case k => k_is)
      · refine' XX.def_mk (x := "_law_trimmed") (st := YY.sTrimmed) KX G ?a ?l ?c ?k (fun _ _ _ _ _ _ us hl => match us, hl with | [_], _ => rfl)
        (case a => k_is); (case l => k_is); (case c => k_is); (case k => k_is)
      · refine' XX.def_mk (x := "_law_shows") (st := YY.sShows) KX G ?a ?l ?c ?k (fun _ _ _ _ _ _ us hl => match us, hl with | [_, _], _ => rfl)
        (case a => k_is); (case l => k_is); (case c => k_is); (case k => k_is)
      · refine' XX.def_mk (x := "_law_heard") (st := YY.sHeard) KX G ?a ?l ?c ?k (fun _ _ _ _ _ _ us hl => match us, hl with | [_, _, _], _ => rfl)
        (case a => k_is); (case l => k_is); (case c => k_is); (case k => k_is)
      · refine' XX.def_mk (x := "_law_sums_right") (st := YY.sSums) KX G ?a ?l ?c ?k (fun _ _ _ _ _ _ us hl => match us, hl with | [_, _], _ => rfl)
        (case a => k_is); (case l => k_is); (case c => k_is); (case k => k_is)
      · refine' XX.def_mk (x := "_law_refused") (st := YY.sRefused) KX G ?a ?l ?c ?k (fun _ _ _ _ _ _ us hl => match us, hl with | [_], _ => rfl)
        (case a => k_is); (case l => k_is); (case c => k_is); (case k => k_is)
    case T =>
      refine ⟨⟨PySem.W.mg_none_of KX G ?_, PySem.W.mg_none_of KX G ?_, PySem.W.mg_none_of KX G ?_, PySem.W.mg_none_of KX G ?_⟩, PySem.W.mg_none_of KX G ?_, PySem.W.mg_none_of KX G ?_, PySem.W.mg_none_of KX G ?_, PySem.W.mg_none_of KX G ?_, PySem.W.mg_none_of KX G ?_, PySem.W.mg_none_of KX G ?_, PySem.W.mg_none_of KX G ?_, PySem.W.mg_none_of KX G ?_⟩
      all_goals k_is
    case nrepr =>
      refine PySem.W.mg_none_of KX G ?_
      k_is
    case nV =>
      refine PySem.W.mg_none_of KX G ?_
      k_is
    case vV => k_is
    case gC =>
      refine' YY.cons_mk KX G ?a1 ?a2
      (case a1 => k_is); (case a2 => k_is)
    case LW =>
      refine' YY.law_mk KX G ?a ?l ?c ?k
      (case a => k_is); (case l => k_is); (case c => k_is); (case k => k_is)
    case PR =>
      refine' YY.dat_mk KX G ?xaP ?xmk ?xa1 ?xi1 ?xkc ?xpg ?xhd ?xpo ?xsa ?xn1 ?xl ?xc ?xrd ?xga ?xat ?xrc ?xkO ?xl2 ?xc2 ?xic ?xnd ?xaddO ?xmulO ?xraL ?xraT ?xrmN ?xrmS ?xfA ?xfM ?xsI ?xsB ?xnf ?xne ?xob ?xgi ?xgf ?xMM
      (case xaP => k_is); (case xmk => k_is); (case xa1 => k_is); (case xi1 => k_is); (case xkc => k_is); (case xpg => k_is); (case xhd => k_is); (case xpo => k_is); (case xsa => k_is); (case xn1 => k_is); (case xl => k_is); (case xc => k_is); (case xrd => k_is); (case xga => k_is); (case xat => k_is); (case xrc => k_is); (case xkO => k_is); (case xl2 => k_is); (case xc2 => k_is)
      case xic => exact ⟨by k_is, by k_is, by k_is, by k_is⟩
      case xnd => exact ⟨YY.kit_no "NoneType" (by k_is) (by k_is) (by k_is), YY.kit_no "bool" (by k_is) (by k_is) (by k_is), YY.kit_no "int" (by k_is) (by k_is) (by k_is), YY.kit_no "str" (by k_is) (by k_is) (by k_is), YY.kit_no "list" (by k_is) (by k_is) (by k_is), YY.kit_no "tuple" (by k_is) (by k_is) (by k_is), YY.kit_no "dict" (by k_is) (by k_is) (by k_is)⟩
      case xaddO =>
        refine' ⟨YY.opc_add ?q1 ?q2, YY.opt_add (T := "NoneType") ?q3 ?q4 ?q5, YY.opt_add (T := "bool") ?q6 ?q7 ?q8, YY.opt_add (T := "int") ?q9 ?q10 ?q11, YY.opt_add (T := "str") ?q12 ?q13 ?q14, YY.opt_add (T := "list") ?q15 ?q16 ?q17, YY.opt_add (T := "tuple") ?q18 ?q19 ?q20, YY.opt_add (T := "dict") ?q21 ?q22 ?q23⟩
        (case q1 => k_is); (case q2 => k_is); (case q3 => k_is); (case q4 => k_is); (case q5 => k_is); (case q6 => k_is); (case q7 => k_is); (case q8 => k_is); (case q9 => k_is); (case q10 => k_is); (case q11 => k_is); (case q12 => k_is); (case q13 => k_is); (case q14 => k_is); (case q15 => k_is); (case q16 => k_is); (case q17 => k_is); (case q18 => k_is); (case q19 => k_is); (case q20 => k_is); (case q21 => k_is); (case q22 => k_is); (case q23 => k_is)
      case xmulO =>
        refine' ⟨YY.opc_mul ?q24 ?q25, YY.opt_mul (T := "NoneType") ?q26 ?q27 ?q28, YY.opt_mul (T := "bool") ?q29 ?q30 ?q31, YY.opt_mul (T := "int") ?q32 ?q33 ?q34, YY.opt_mul (T := "str") ?q35 ?q36 ?q37, YY.opt_mul (T := "list") ?q38 ?q39 ?q40, YY.opt_mul (T := "tuple") ?q41 ?q42 ?q43, YY.opt_mul (T := "dict") ?q44 ?q45 ?q46⟩
        (case q24 => k_is); (case q25 => k_is); (case q26 => k_is); (case q27 => k_is); (case q28 => k_is); (case q29 => k_is); (case q30 => k_is); (case q31 => k_is); (case q32 => k_is); (case q33 => k_is); (case q34 => k_is); (case q35 => k_is); (case q36 => k_is); (case q37 => k_is); (case q38 => k_is); (case q39 => k_is); (case q40 => k_is); (case q41 => k_is); (case q42 => k_is); (case q43 => k_is); (case q44 => k_is); (case q45 => k_is); (case q46 => k_is)
      case xraL =>
        refine' YY.opn_add (T := "list") ?q47 ?q48 ?q49
        (case q47 => k_is); (case q48 => k_is); (case q49 => rfl)
      case xraT =>
        refine' YY.opn_add (T := "tuple") ?q50 ?q51 ?q52
        (case q50 => k_is); (case q51 => k_is); (case q52 => rfl)
      case xrmN =>
        refine' YY.opn_mul (T := "NoneType") ?q53 ?q54 ?q55
        (case q53 => k_is); (case q54 => k_is); (case q55 => rfl)
      case xrmS =>
        refine' YY.opn_mul (T := "str") ?q56 ?q57 ?q58
        (case q56 => k_is); (case q57 => k_is); (case q58 => rfl)
      (case xfA => k_is); (case xfM => k_is); (case xsI => k_is); (case xsB => k_is); (case xnf => k_is); (case xne => k_is); (case xob => k_is); (case xgi => k_is); (case xgf => k_is)
      case xMM =>
        constructor
        · refine' YY.methd_mk (m := "__eq__") (q := "Data.__eq__") (st := YY.sEqD) ?ma ?mi ?mk ?ml ?mc (fun _ _ _ _ _ _ us hl => match us, hl with | [_, _], _ => rfl)
          (case ma => k_is); (case mi => k_is); (case mk => k_is); (case ml => k_is); (case mc => k_is)
        · refine' YY.methd_mk (m := "__len__") (q := "Data.__len__") (st := YY.sLenD) ?ma ?mi ?mk ?ml ?mc (fun _ _ _ _ _ _ us hl => match us, hl with | [_], _ => rfl)
          (case ma => k_is); (case mi => k_is); (case mk => k_is); (case ml => k_is); (case mc => k_is)
        · refine' YY.methd_mk (m := "__repr__") (q := "Data.__repr__") (st := YY.sReprD) ?ma ?mi ?mk ?ml ?mc (fun _ _ _ _ _ _ us hl => match us, hl with | [_], _ => rfl)
          (case ma => k_is); (case mi => k_is); (case mk => k_is); (case ml => k_is); (case mc => k_is)
        · refine' YY.methd_mk (m := "__getitem__") (q := "Data.__getitem__") (st := YY.sGetD) ?ma ?mi ?mk ?ml ?mc (fun _ _ _ _ _ _ us hl => match us, hl with | [_, _], _ => rfl)
          (case ma => k_is); (case mi => k_is); (case mk => k_is); (case ml => k_is); (case mc => k_is)
        · refine' YY.methd_mk (m := "__add__") (q := "Data.__add__") (st := YY.sAddD) ?ma ?mi ?mk ?ml ?mc (fun _ _ _ _ _ _ us hl => match us, hl with | [_, _], _ => rfl)
          (case ma => k_is); (case mi => k_is); (case mk => k_is); (case ml => k_is); (case mc => k_is)
        · refine' YY.methd_mk (m := "__radd__") (q := "Data.__radd__") (st := YY.sRaddD) ?ma ?mi ?mk ?ml ?mc (fun _ _ _ _ _ _ us hl => match us, hl with | [_, _], _ => rfl)
          (case ma => k_is); (case mi => k_is); (case mk => k_is); (case ml => k_is); (case mc => k_is)
        · refine' YY.methd_mk (m := "__mul__") (q := "Data.__mul__") (st := YY.sMulD) ?ma ?mi ?mk ?ml ?mc (fun _ _ _ _ _ _ us hl => match us, hl with | [_, _], _ => rfl)
          (case ma => k_is); (case mi => k_is); (case mk => k_is); (case ml => k_is); (case mc => k_is)
        · refine' YY.methd_mk (m := "__rmul__") (q := "Data.__rmul__") (st := YY.sRmulD) ?ma ?mi ?mk ?ml ?mc (fun _ _ _ _ _ _ us hl => match us, hl with | [_, _], _ => rfl)
          (case ma => k_is); (case mi => k_is); (case mk => k_is); (case ml => k_is); (case mc => k_is)
    case ER =>
      refine' YY.errs_mk KX G ?eeB ?eeN ?exB ?exN ?el ?ec ?ek ?es1 ?es2 ?es3
      case eeB =>
        refine' YY.err_mk KX G ?aCB ?xLB ?bmrB ?saB ?gaB ?ggB ?noB ?iniB ?tIB ?kCB ?eCB ?tCB ?hCB
        (case aCB => k_is); (case xLB => k_is); (case bmrB => decide +kernel); (case saB => k_is); (case gaB => k_is); (case ggB => k_is); (case noB => k_is); (case iniB => k_is); (case tIB => k_is); (case kCB => k_is); (case eCB => k_is); (case tCB => k_is); (case hCB => k_is)
      case eeN =>
        refine' YY.err_mk KX G ?aCN ?xLN ?bmrN ?saN ?gaN ?ggN ?noN ?iniN ?tIN ?kCN ?eCN ?tCN ?hCN
        (case aCN => k_is); (case xLN => k_is); (case bmrN => decide +kernel); (case saN => k_is); (case gaN => k_is); (case ggN => k_is); (case noN => k_is); (case iniN => k_is); (case tIN => k_is); (case kCN => k_is); (case eCN => k_is); (case tCN => k_is); (case hCN => k_is)
      case exB => exact ⟨by k_is, by k_is, by k_is⟩
      case exN => exact ⟨by k_is, by k_is, by k_is⟩
      (case el => k_is); (case ec => k_is); (case ek => k_is); (case es1 => k_is); (case es2 => k_is); (case es3 => k_is)
