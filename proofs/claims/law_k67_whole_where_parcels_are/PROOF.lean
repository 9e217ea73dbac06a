import PyProof.Rows.All
import Wide.All
import OpenK.AllK
import Wide.FinOn
import HandS.ForMost
import HandS.Flow
import HandS.IsInst
import HandS.Style
import HandS.More
import HandS.Strs
import HandS.Zip
import HandS.Codes
import HandS.Defaults
import HandS.MakeKw
import HandS.TupAny
import HandS.TupMul
import HandS.Wide
import HandS.Sort
import HandS.SortInts
import HandS.NoneIn
import HandS.Conv
import HandS.Walk
import HandS.Head0
import HandS.Head1
import HandS.Head2
import HandS.HeadEnd
import HandS.HeadHook1
import HandS.HeadHook2
import HandS.Star
import HandS.SortOrd
import HandS.TryOnly
import PyProof.EqAt
import HandS.MakeKwOnly
import HandS.SortKw
import HandS.OwnEq
import HandS.HeadHook3
import KE.GoesEnumKw
import OpenK.KOps
import OpenK.KMeth
import HandS.Property
import PyProof.MinMaxWalk
import PyProof.WalkInts
import HandS.Deep
import PySem.Challenge.RW_lockerwall_k67_whole_where_parcels_are
set_option Elab.async false
set_option linter.all false
set_option maxRecDepth 100000
namespace My
open PySem PySem.Spec PyProof.Rows L2
/-! ### tables of the written part by address -/
def tupAt (K : PySem.W.Frag) (a : Addr) (vs : List V) : Bool := match K.lookup a with
  | some ⟨.type c, none, .seq its _, _⟩ => decide (c = "tuple") && (decide (its.size ≤ sizeLine) && He.relAll vs its.toList)
  | _ => false
theorem tupAt_ex {K : PySem.W.Frag} {a : Addr} {vs : List V} (h : tupAt K a vs = true) : ∃ (o : Obj) (its : Array Value) (n : Nat), K.lookup a = some o ∧ o.cls = .type "tuple" ∧ o.dict = none ∧ o.data = .seq its n ∧ its.size ≤ sizeLine ∧ Vals vs its.toList := by
  unfold tupAt at h
  cases q : K.lookup a with
  | none =>
    rw [q] at h
    cases h
  | some o =>
    obtain ⟨oc, od, dt, osl⟩ := o
    rw [q] at h
    cases oc with
    | type c =>
      cases od with
      | none =>
        cases dt with
        | seq its n =>
          obtain ⟨h1, h2⟩ := He.ba (show (decide (c = "tuple") && (decide (its.size ≤ sizeLine) && He.relAll vs its.toList)) = true from h)
          obtain ⟨h3, h4⟩ := He.ba h2
          exact ⟨_, its, n, rfl, congrArg Value.type (of_decide_eq_true h1), rfl, rfl, of_decide_eq_true h3, He.relAll_ok h4⟩
        | _ => cases h
      | some d => cases dt <;> cases h
    | _ => cases od <;> cases dt <;> cases h
theorem tupAt_ok {K : PySem.W.Frag} {a : Addr} {vs : List V} (h : tupAt K a vs = true) (H : Hp) : SqT K H a vs := by
  obtain ⟨o, its, n, h1, h2, h3, h4, h5, h6⟩ := tupAt_ex h
  exact .inr ⟨o, its, n, h1, h2, h4, h5, h6⟩
theorem tupAt_ty {K : PySem.W.Frag} {a : Addr} {vs : List V} (h : tupAt K a vs = true) (H : Hp) : tyV K "tuple" (.ref a) H := by
  obtain ⟨o, its, n, h1, h2, h3, h4, h5, h6⟩ := tupAt_ex h
  exact .inr (.inl ⟨rfl, o, h1, h2, h3⟩)
theorem all_ix {l : List Bool} (h : l.all id = true) (i : Nat) {b : Bool} (e : l[i]? = some b) : b = true := by
  have := List.all_eq_true.mp h b (List.mem_of_getElem? e)
  exact this
/-! ### the Hook: facts, defs, one more Bool -/
abbrev AlE : Type := He.AlD × Bool
def obsDG2 (n : Nat) (fa : List He.Fa) (fn : List He.DefD) (ex : PySem.W.Frag → Bool) (g : Addr → Option Obj) : AlE := (fun K => (He.obsD fa fn K, ex K)) (He.frG g (He.asD g n))
def hookD2 (n : Nat) (fa : List He.Fa) (fn : List He.DefD) (ex : PySem.W.Frag → Bool) : PySem.W.Hook where
  α := AlE
  obs := fun s => obsDG2 n fa fn ex s.heap.get?
  val := fun _ => (He.valD fn, true)
  says := fun _ h => ∃ K : PySem.W.Frag, K.In h ∧ He.SaysD fa fn K ∧ ex K = true
  of := fun _ _ e => ⟨_, He.frG_in, congrArg (fun z : AlE => z.1) e, congrArg (fun z : AlE => z.2) e⟩
  keeps := fun _ _ _ ⟨K, hK, c⟩ k => ⟨K, PySem.W.Frag.In.keeps hK k, c⟩
theorem obsDG2_eq {n : Nat} {fa : List He.Fa} {fn : List He.DefD} {ex : PySem.W.Frag → Bool} {g : Addr → Option Obj} {s : Shared} (h : ∀ a, g a = s.heap.get? a) : obsDG2 n fa fn ex g = (hookD2 n fa fn ex).obs s := by
  have e : g = s.heap.get? := funext h
  rw [e] <;> rfl
end My
namespace My
open PySem PySem.Spec PyProof.Rows L2
/-! ### small rules -/
section
variable {X : Cx} {k j : Nat} {C : Addr} {x : Str} {sp : Sp} {dvs : List V} {p pos : Pos}
theorem pe_c0 (c : C8.Cal X.prog X.w X.K X.mg X.base k x sp dvs) (hr : Room j X.A) (hk : k ≤ j) (hg : Gl X x) (hdb : (x == ("__debug__" : Str)) = false := by decide) :
    PE X (.Call (.Name x p) [] [] pos) (tCall sp dvs C8.E0 tNil) := by
  obtain ⟨f, fd, ps, ds, F, hm, kp, b, d⟩ := c.ex
  exact pe_call0 F (hr.mono hk) hg hm kp b d C8.pass0 hdb
theorem pe_mk0 (c : C8.Mak X.prog X.w X.K X.mg X.base k x C sp dvs) (hr : Room j X.A) (hk : k + 1 ≤ j) (hg : Gl X x) (hdb : (x == ("__debug__" : Str)) = false := by decide) :
    PE X (.Call (.Name x p) [] [] pos) (tMake C sp dvs C8.E0 tNil) := by
  obtain ⟨f, fd, ps, ds, M, F, hm, b, d⟩ := c.ex
  exact pe_make0 M F (hr.mono hk) hg hm b d C8.pass0 hdb
/-- ** of great ints -/
def CPowW (i j : Int) : Prop := 0 ≤ j ∧ j ≤ 100 ∧ i.natAbs < 2 ^ 10000
theorem op_powW : OpR X (binaryOp .Pow) (rI CPowW fun i j => .int (i ^ j.toNat)) := opI fun i j _ _ _ _ _ hc q => by
  obtain ⟨h1, h2, h3⟩ := hc
  have hb := intBits_le h3
  refine PyProof.Rows.pow_int h1 ?_ q
  have h4 : (Builtin.Int.intBits i : Int) ≤ 10000 := by omega
  have h5 : (Builtin.Int.intBits i : Int) * j ≤ 10000 * 100 := Int.mul_le_mul h4 h2 h1 (by decide)
  exact Int.le_trans h5 (by decide)
end
theorem inV_str (x : Str) : ∀ ws : List Str, inV (.str x) (ws.map V.str) = decide (x ∈ ws)
  | [] => rfl
  | y :: ws => by
    have ih := inV_str x ws
    show (eqV (.str y) (.str x) || inV (.str x) (ws.map V.str)) = _
    rw [ih]
    show ((y == x) || decide (x ∈ ws)) = _
    by_cases e : y = x
    · subst e
      simp
    · have e2 : ¬ x = y := fun z => e z.symm
      simp [e, e2]
theorem all_flat_str (ws : List Str) : (ws.map V.str).all flatV = true := by
  rw [List.all_map]
  exact List.all_eq_true.mpr fun _ _ => rfl
end My

namespace My
open PySem PySem.Spec PyProof.Rows L2
theorem map_get {α β : Type} {f : α → β} {l : List α} {i : Nat} {y : β} (h : (l.map f)[i]? = some y) : ∃ z, l[i]? = some z ∧ y = f z := by
  rw [List.getElem?_map] at h
  cases e : l[i]? with
  | none =>
    rw [e] at h
    cases h
  | some z =>
    rw [e] at h
    exact ⟨z, rfl, (Option.some.inj h).symm⟩
theorem tyx_tup {K : PySem.W.Frag} {H : Hp} {a : Addr} {xs : List V} (h : SqT K H a xs) : TyX K H (.ref a) (.type "tuple") := by
  rcases h with (h | ⟨o, h⟩) | ⟨o, its, n, hk, hc, _⟩
  · exact .base (.tup h)
  · exact .fTuple h
  · exact .kTuple hk hc
theorem tyx_lst {K : PySem.W.Frag} {H : Hp} {a : Addr} {xs : List V} (h : SqL K H a xs) : TyX K H (.ref a) (.type "list") := by
  rcases h with (h | ⟨o, h⟩) | ⟨o, its, n, hk, hc, _⟩
  · exact .base (.lst h)
  · exact .base (.frz h)
  · exact .kList hk hc
theorem same_tup {K : PySem.W.Frag} {H H' : Hp} {a : Addr} {xs : List V} (e : Same H H') (h : SqT K H a xs) : SqT K H' a xs := by
  rcases h with (h | ⟨o, h⟩) | h
  · exact .inl (.inl (e _ _ h))
  · exact .inl (.inr ⟨o, e _ _ h⟩)
  · exact .inr h
theorem same_new {H : Hp} {a : Addr} {o : HO} (h : H a = Option.none) : Same H (upd H a o) := fun b u e => by
  rw [upd_ne (ne_of_none e h)]
  exact e
theorem same_upd {H H' : Hp} {a : Addr} {o : HO} (s : Same H H') (h : H a = Option.none) : Same H (upd H' a o) := fun b u e => by
  rw [upd_ne (ne_of_none e h)]
  exact s b u e
/-- all that stood stands as it was, but at these addresses -/
def But (as : List Addr) (H H' : Hp) : Prop := ∀ b o, b ∉ as → H b = some o → H' b = some o
theorem But.refl (as : List Addr) (H : Hp) : But as H H := fun _ _ _ h => h
theorem But.trans {as : List Addr} {H H1 H2 : Hp} (a : But as H H1) (b : But as H1 H2) : But as H H2 := fun c o n h => b c o n (a c o n h)
theorem But.of {as : List Addr} {H H' : Hp} (s : Same H H') : But as H H' := fun c o _ h => s c o h
theorem But.mono {as bs : List Addr} {H H' : Hp} (s : But as H H') (h : ∀ a ∈ as, a ∈ bs) : But bs H H' := fun c o n e => s c o (fun z => n (h c z)) e
theorem But.same {H H' : Hp} (s : But [] H H') : Same H H' := fun c o h => s c o (by simp) h
/-- a change at a place that was not there, or that is let -/
theorem But.put {as : List Addr} {H H' : Hp} {a : Addr} {o : HO} (s : But as H H') (h : H a = Option.none ∨ a ∈ as) : But as H (upd H' a o) := fun b u n e => by
  have nb : b ≠ a := by
    intro z
    subst z
    rcases h with h | h
    · rw [h] at e
      cases e
    · exact n h
  rw [upd_ne nb]
  exact s b u n e
theorem But.tup {K : PySem.W.Frag} {as : List Addr} {H H' : Hp} {a : Addr} {xs : List V} (s : But as H H') (n : a ∉ as) (h : SqT K H a xs) : SqT K H' a xs := by
  rcases h with (h | ⟨o, h⟩) | h
  · exact .inl (.inl (s _ _ n h))
  · exact .inl (.inr ⟨o, s _ _ n h⟩)
  · exact .inr h
theorem But.lst {K : PySem.W.Frag} {as : List Addr} {H H' : Hp} {a : Addr} {xs : List V} (s : But as H H') (n : a ∉ as) (h : SqL K H a xs) : SqL K H' a xs := by
  rcases h with (h | ⟨o, h⟩) | h
  · exact .inl (.inl (s _ _ n h))
  · exact .inl (.inr ⟨o, s _ _ n h⟩)
  · exact .inr h
theorem But.none {as : List Addr} {H H' : Hp} {a : Addr} (s : But as H H') (n : a ∉ as) (h : H' a = Option.none) : H a = Option.none := by
  cases q : H a with
  | none => rfl
  | some o =>
    rw [s a o n q] at h
    cases h
end My
namespace My
open PySem PySem.Spec PyProof.Rows L2
/-! ### the rules by a named K (a comprehension's block has its own context over the same K) -/
section
variable {X : Cx} {K : PySem.W.Frag} {a b e o : Expr} {es : List Expr} {ta tb te to : TE} {t : TA} {pos apos cpos tpos p2 : Pos} {f name : Str} {T id : String} {r : V → List V → Hp → VK → Prop} {tg l : Expr} {tl : TE}
theorem ix_listK (h : X.K = K) : IxR X (rIxL K) := by subst h; exact ix_list
theorem ix_tupK (h : X.K = K) : IxR X (rIxT K) := by subst h; exact ix_tup
def rLenQ (K : PySem.W.Frag) : List V → Hp → VK → Prop := fun xs H Q => ∃ p ys, xs = [.ref p] ∧ (SqL K H p ys ∨ SqT K H p ys) ∧ Q (.int ys.length) H
theorem len_seqK (h : X.K = K) : CallR X (.builtin "len") (rLenQ K) := by subst h; exact call_len_seq
def rListOf (K : PySem.W.Frag) : List V → Hp → VK → Prop := fun xs H Q => ∃ p ys, xs = [.ref p] ∧ (SqL K H p ys ∨ SqT K H p ys) ∧ ∀ l, H l = none → Q (.ref l) (upd H l (.lst ys))
theorem list_ofK (h : X.K = K) : CallR X (.type "list") (rListOf K) := by subst h; exact call_list_of
def rTupleOf (K : PySem.W.Frag) : List V → Hp → VK → Prop := fun xs H Q => ∃ p ys, xs = [.ref p] ∧ ((SqL K H p ys ∧ ∀ l, H l = none → Q (.ref l) (upd H l (.tup ys))) ∨ (SqT K H p ys ∧ Q (.ref p) H))
theorem tuple_ofK (h : X.K = K) : CallR X (.type "tuple") (rTupleOf K) := by subst h; exact call_tuple_of
theorem isiK (h : X.K = K) : CallR X (.builtin "isinstance") (rIsi K) := by subst h; exact call_isi
theorem isiTK (h : X.K = K) : CallR X (.builtin "isinstance") (rIsiT K) := by subst h; exact call_isiT
theorem allK (h : X.K = K) (hc : X.calm = true) : CallR X (.builtin "all") (rAll K) := by subst h; exact cr_all hc
theorem anyK (h : X.K = K) (hc : X.calm = true) : CallR X (.builtin "any") (rAny K) := by subst h; exact cr_any hc
theorem sortedIK (h : X.K = K) : CallR X (.builtin "sorted") (rSortedI K) := by subst h; exact cr_sortedI
theorem in_seqK (h : X.K = K) : OpR X (compareOp .In) (rIn K false) := by subst h; exact op_in_seq
theorem notIn_seqK (h : X.K = K) : OpR X (compareOp .NotIn) (rIn K true) := by subst h; exact op_notIn_seq
theorem eqDK (h : X.K = K) (hu : X.A.units + 64 < cLine) : OpR X (compareOp .Eq) (rEqD K) := by subst h; exact op_eqD hu
theorem neDK (h : X.K = K) (hu : X.A.units + 64 < cLine) : OpR X (compareOp .NotEq) (rNeD K) := by subst h; exact op_neD hu
theorem catAK (h : X.K = K) : OpR X (binaryOp .Add) (rCatA K) := by subst h; exact op_catA
theorem repTK (h : X.K = K) : OpR X (binaryOp .Mult) (rRepT K) := by subst h; exact op_repT
theorem sl_listK (h : X.K = K) : SlR X (rSlL K) := by subst h; exact sl_list
theorem sl_tupAK (h : X.K = K) : SlR X (rSlA K) := by subst h; exact sl_tupA
theorem pe_fldK (h : X.K = K) (he : PE X e ta) (hb : attributeBase e f X.env (eval e X.env) = eval e X.env) : PE X (.Attribute e f pos) (tFld K ta f) := by subst h; exact pe_fld he hb
theorem pt_truthK (h : X.K = K) (ha : PE X a ta) (he : ∀ whole, isTrue a X.env whole = (do let v ← whole; standAt a.pos; holding [v] (truthy v))) : PT X a (fun σ H Q => ta σ H fun x H' => ∃ k, TruV K x H' k ∧ Q k H') := by subst h; exact pt_truth ha he
theorem pi_listK (h : X.K = K) (hl : PE X l tl) : PI X tg l (iList K tl) := by subst h; exact pi_list hl
theorem pi_tupK (h : X.K = K) (hl : PE X l tl) : PI X tg l (iTup K tl) := by subst h; exact pi_tup hl
theorem pe_revLK {k : Nat} {p1 p3 : Pos} (h : X.K = K) (he : PE X e te) : PE X (.Subscript e (.Slice none none (some (.UnaryOp .USub (.Constant (.int 1) k p1) p2)) p3) pos) (tRevL K te) := by subst h; exact pe_revL he
theorem pe_bm0K (h : X.K = K) (pa : PlainAttrs T) (slot : Slot T name id) (hty : typeOf (.builtin id) = pure (.type "method_descriptor")) (hm : MtR X id r) (ho : PE X o to)
    (hbase : attributeBase o name X.env (eval o X.env) = eval o X.env := by rfl) (hline : (apos.endLine == cpos.line) = true := by rfl) : PE X (.Call (.Attribute o name apos) [] [] cpos) (tBM0 K T r to) := by subst h; exact pe_bm0 pa slot hty hm ho hbase hline
theorem pe_bmK (h : X.K = K) (pa : PlainAttrs T) (slot : Slot T name id) (hty : typeOf (.builtin id) = pure (.type "method_descriptor")) (hm : MtR X id r) (ho : PE X o to) (ha : PA X (e :: es) t)
    (hbase : attributeBase o name X.env (eval o X.env) = eval o X.env := by rfl)
    (hfew : ((backTo cpos (starEach (e :: es) X.env)).all (fun x => !x.1) && (backToKw cpos (keywordEach [] X.env)).all (fun x => x.1.isSome)
      && decide ((e :: es).length + ([] : List Keyword).length + (if ([] : List Keyword).isEmpty then 0 else 1) < 30)) = true := by rfl)
    (hline : (apos.endLine == cpos.line) = true := by rfl) (hs : starEach (e :: es) X.env = (false, eval e X.env) :: starEach es X.env := by rfl) (hplain : (backTo cpos (starEach es X.env)).any (·.1) = false := by rfl) :
    PE X (.Call (.Attribute o name apos) (e :: es) [] cpos) (tBM K T r to t) := by subst h; exact pe_bm pa slot hty hm ho ha hbase hfew hline hs hplain
def rTupIx (K : PySem.W.Frag) : V → List V → Hp → VK → Prop := fun x xs H Q => ∃ p, ∃ ys : List Str, ∃ z j, x = .ref p ∧ xs = [.str z] ∧ SqT K H p (ys.map V.str) ∧ ys[j]? = some z ∧ (∀ m, m < j → ys[m]? ≠ some z) ∧ Q (.int (j : Nat)) H
theorem tup_indexK (h : X.K = K) : MtR X "tuple.index" (rTupIx K) := by subst h; exact mt_tup_index
end
end My
namespace My
open PySem PySem.Spec PyProof.Rows L2
theorem pg_tupK {X : Cx} {K : PySem.W.Frag} {es : List Expr} {k : Nat} {t : TGs} {n : Nat} {pos : Pos} (h0 : X.K = K) (hc : X.calm = true) (h : PGs X es t)
    (hn : (assignEach es X.env).length = n := by rfl) (hst : (assignEach es X.env).findIdx? (·.1) = none := by rfl) : PG X (.Tuple es k pos) (gTup K n t) := by subst h0; exact pg_tup hc h hn hst
/-! ### two fors in a comprehension -/
section
variable {J J1 : It} {n n1 : Nat} {G G1 : Hp → Prop} {Y Y1 : Nat → Hp → V → Hp → Prop} {g g1 : TG} {tt tt1 : TT} {te : TE} {wi1 : TI} {vs vs1 : List Nat} {σ σ2 : L2.St} {H1 H4 : Hp} {D : Addr} {Qd Nx : Hp → Prop}
theorem lc2_out (w : Walk J n G Y) (Pv : Nat → Hp → Prop) (h0 : Pv 0 (upd H1 D (.lst []))) (hG : ∀ i H, i ≤ n → Pv i H → G H)
    (hs : ∀ i x H H', i < n → Pv i H → Y i H x H' → g x (wipe σ vs) H' fun σ2 H2 => wipe σ2 vs = wipe σ vs ∧ tt σ2 H2 fun b H3 =>
      if b = true then wi1 σ2 H3 fun J1 H4 => ∃ W1 : Nat → Nat → Hp → Prop, (∃ m, W1 0 m H4) ∧ ∀ j k H, W1 j k H →
        (J1.stop j H ∧ Pv (i + 1) H) ∨ (J1.go j H ∧ ∃ Nx1 : Hp → Prop, (∀ H', Nx1 H' → ∃ k', k' < k ∧ W1 (j + 1) k' H') ∧ ∀ x H', J1.yld j H x H' → g1 x (wipe σ2 vs1) H' fun σ3 H5 => wipe σ3 vs1 = wipe σ2 vs1 ∧ tt1 σ3 H5 fun b H6 =>
          if b = true then te σ3 H6 fun y H7 => ∃ acc, H7 D = some (.lst acc) ∧ acc.length < sizeLine ∧ Nx1 (upd H7 D (.lst (acc ++ [y]))) else Nx1 H6)
      else Pv (i + 1) H3) (hd : ∀ H, Pv n H → Qd H) :
    ∃ W : Nat → Nat → Hp → Prop, (∃ m, W 0 m (upd H1 D (.lst []))) ∧ ∀ i m H, W i m H →
      (J.stop i H ∧ Qd H) ∨ (J.go i H ∧ ∃ Nx : Hp → Prop, (∀ H', Nx H' → ∃ m', m' < m ∧ W (i + 1) m' H') ∧ ∀ x H', J.yld i H x H' → g x (wipe σ vs) H' fun σ2 H2 => wipe σ2 vs = wipe σ vs ∧ tt σ2 H2 fun b H3 =>
        if b = true then wi1 σ2 H3 fun J1 H4 => ∃ W1 : Nat → Nat → Hp → Prop, (∃ m, W1 0 m H4) ∧ ∀ j k H, W1 j k H →
          (J1.stop j H ∧ Nx H) ∨ (J1.go j H ∧ ∃ Nx1 : Hp → Prop, (∀ H', Nx1 H' → ∃ k', k' < k ∧ W1 (j + 1) k' H') ∧ ∀ x H', J1.yld j H x H' → g1 x (wipe σ2 vs1) H' fun σ3 H5 => wipe σ3 vs1 = wipe σ2 vs1 ∧ tt1 σ3 H5 fun b H6 =>
            if b = true then te σ3 H6 fun y H7 => ∃ acc, H7 D = some (.lst acc) ∧ acc.length < sizeLine ∧ Nx1 (upd H7 D (.lst (acc ++ [y]))) else Nx1 H6)
        else Nx H3) := by
  refine ⟨fun i m H => m = n - i ∧ i ≤ n ∧ Pv i H, ⟨n, by simp, Nat.zero_le _, h0⟩, ?_⟩
  rintro i m H ⟨rfl, hi, p⟩
  have q := hG i H hi p
  by_cases hlt : i < n
  · exact .inr ⟨w.goes i H hlt q, Pv (i + 1), fun H' p' => ⟨n - (i + 1), by omega, rfl, hlt, p'⟩, fun x H' y => hs i x H H' hlt p (w.yields i H x H' hlt q y)⟩
  · have e : i = n := by omega
    subst e
    exact .inl ⟨w.stops H q, hd H p⟩
theorem lc2_in (w : Walk J1 n1 G1 Y1) (Pv : Nat → Hp → Prop) (h0 : Pv 0 H4) (hG : ∀ i H, i ≤ n1 → Pv i H → G1 H)
    (hs : ∀ i x H H', i < n1 → Pv i H → Y1 i H x H' → g1 x (wipe σ2 vs1) H' fun σ3 H5 => wipe σ3 vs1 = wipe σ2 vs1 ∧ tt1 σ3 H5 fun b H6 =>
      if b = true then te σ3 H6 fun y H7 => ∃ acc, H7 D = some (.lst acc) ∧ acc.length < sizeLine ∧ Pv (i + 1) (upd H7 D (.lst (acc ++ [y]))) else Pv (i + 1) H6) (hd : ∀ H, Pv n1 H → Nx H) :
    ∃ W1 : Nat → Nat → Hp → Prop, (∃ m, W1 0 m H4) ∧ ∀ j k H, W1 j k H →
      (J1.stop j H ∧ Nx H) ∨ (J1.go j H ∧ ∃ Nx1 : Hp → Prop, (∀ H', Nx1 H' → ∃ k', k' < k ∧ W1 (j + 1) k' H') ∧ ∀ x H', J1.yld j H x H' → g1 x (wipe σ2 vs1) H' fun σ3 H5 => wipe σ3 vs1 = wipe σ2 vs1 ∧ tt1 σ3 H5 fun b H6 =>
        if b = true then te σ3 H6 fun y H7 => ∃ acc, H7 D = some (.lst acc) ∧ acc.length < sizeLine ∧ Nx1 (upd H7 D (.lst (acc ++ [y]))) else Nx1 H6) := by
  refine ⟨fun i m H => m = n1 - i ∧ i ≤ n1 ∧ Pv i H, ⟨n1, by simp, Nat.zero_le _, h0⟩, ?_⟩
  rintro i m H ⟨rfl, hi, p⟩
  have q := hG i H hi p
  by_cases hlt : i < n1
  · exact .inr ⟨w.goes i H hlt q, Pv (i + 1), fun H' p' => ⟨n1 - (i + 1), by omega, rfl, hlt, p'⟩, fun x H' y => hs i x H H' hlt p (w.yields i H x H' hlt q y)⟩
  · have e : i = n1 := by omega
    subst e
    exact .inl ⟨w.stops H q, hd H p⟩
end
end My
namespace My
open PySem PySem.Spec PyProof.Rows L2
/-! ### f(b=.., a=..): both arguments by name, turned about -/
def kwG {α : Type} (us ws : List α) : List α := match us, ws with
  | [], [x, y] => [y, x]
  | _, _ => []
structure CalK2 (P : Program) (w : World) (K : PySem.W.Frag) (mg : Str → Option Value) (base : Heap) (k : Nat) (x : Str) (sp : Sp) (p1 p2 : Str) : Prop where
  ex : ∃ (f : Addr) (fd : FuncData), FnOk P w K mg base C8.CX0 k f fd [p1, p2] sp ∧ mg x = some (.ref f) ∧ PySem.W.keepIn K (.ref f) = true ∧ KBinds K fd [p1, p2] [p2, p1] kwG kwG
theorem kw2_of {K : PySem.W.Frag} {x qual : Str} {params : Arguments} {body : List Stmt} {scope : Scope} {kws : List (Str × V)} {f : Addr} {fd : FuncData} {p1 p2 : Str} (F : FunD K x qual params body scope [] kws f fd)
    (h : ∀ (kV doc pm : Value) (an : Option Addr) (cdv ct : Value) (u v : Value), bindArgs (PySem.W.fnOf x qual params body scope .none kV doc pm an cdv ct) ⟨[], [(p2, u), (p1, v)]⟩ = pure [(p1, v), (p2, u)]) : KBinds K fd [p1, p2] [p2, p1] kwG kwG := by
  obtain ⟨oc, od, dV, kV, doc, pm, an, cdv, ct, osl, rfl, lk, hcd, hD, hK⟩ := F.ex
  rcases hD with ⟨_, rfl⟩ | ⟨e, _⟩
  · refine ⟨fun s us ws X hl => ?_, fun {vs us zs ws} r1 r2 => ?_⟩
    · match us, ws, hl with
      | [], [u, v], _ => exact .of_eq (h kV doc pm an cdv ct u v)
    · cases r1 with
      | nil =>
        cases r2 with
        | nil => exact .nil
        | cons a r2 =>
          cases r2 with
          | nil => exact .nil
          | cons b r2 =>
            cases r2 with
            | nil => exact .cons b (.cons a .nil)
            | cons c r2 => exact .nil
      | cons a r1 => exact .nil
  · exact absurd rfl e
theorem pe_kw2 {X : Cx} {k j : Nat} {x p1 p2 : Str} {sp : Sp} {p pos : Pos} {kws : List Keyword} {tk : TA} (c : CalK2 X.prog X.w X.K X.mg X.base k x sp p1 p2) (hr : Room j X.A) (hk : k ≤ j) (hg : Gl X x) (hkw : PK X kws tk)
    (hall : (backToKw pos (keywordEach kws X.env)).all (·.1.isSome) = true := by rfl) (hks : (backToKw pos (keywordEach kws X.env)).filterMap (·.1) = [p2, p1] := by rfl) (hdb : (x == ("__debug__" : Str)) = false := by decide)
    (hpl : ((backTo pos (starEach [] X.env)).any (·.1) || (backToKw pos (keywordEach kws X.env)).any (·.1.isNone)) = false := by rfl) : PE X (.Call (.Name x p) [] kws pos) (tCallK sp kwG C8.E0 tNil tk) := by
  obtain ⟨f, fd, F, hm, kp, hb⟩ := c.ex
  refine ⟨fun pins s σ H Q I h => ?_⟩
  refine wpAny_Call_Name_kw (ld_glob I hg hm ?_ hdb)
  refine PySem.W.callWith_KW0 (h₀ := X.base) I.ok.mod.kin kp hall (thn (hkw.run pos pins s σ H _ I h) fun ws s2 ⟨zs, H2, I2, rz, q2⟩ => ⟨I2.kIn, ?_⟩) hpl
  rw [hks]
  exact run_fnk (us := []) F (hr.mono hk) hb C8.pass0 I2 .nil rz q2
end My
namespace My
open PySem PySem.Spec PyProof.Rows L2 StX
/-! ### C(e, *ys); C(e, .., k = v, ..) -/
section
variable {X : Cx} {K : PySem.W.Frag} {k j n : Nat} {C : Addr} {x : Str} {sp : Sp} {dvs : List V} {p pos sp_ : Pos} {e : Expr} {es : List Expr} {te : TE} {t tk : TA} {kws : List Keyword} {ks : List Str} {gV : List V → List V → List V}
theorem pa_starK (h : X.K = K) (he : PE X e te) (hr : PA X es t) (hs : starEach (.Starred e sp_ :: es) X.env = (true, eval e X.env) :: starEach es X.env := by rfl) : PA X (.Starred e sp_ :: es) (tStar K te t) := by subst h; exact pa_star he hr hs
theorem pe_mkS2 (c : C8.Mak X.prog X.w X.K X.mg X.base k x C sp dvs) (hr : Room j X.A) (hk : k + 1 ≤ j) (hg : Gl X x) (ha : PA X (e :: es) t) (hdb : (x == ("__debug__" : Str)) = false := by decide)
    (he : starEach (e :: es) X.env = (false, eval e X.env) :: starEach es X.env := by rfl) (hst : (backTo pos (starEach es X.env)).any (·.1) = true := by rfl) : PE X (.Call (.Name x p) (e :: es) [] pos) (tMake C sp dvs C8.E0 t) := by
  obtain ⟨f, fd, ps, ds, M, F, hm, b, d⟩ := c.ex
  refine ⟨fun pins s σ H Q I h => ?_⟩
  refine wpAny_Call_Name_kw (ld_glob I hg hm ?_ hdb)
  refine PySem.W.callWith_S2 (h₀ := X.base) I.ok.mod.kin M.kp (thn (ha.run pos pins s σ H _ I h) fun us s1 ⟨vs, H1, I1, r, q⟩ => ⟨I1.kIn, ?_⟩) he hst
  exact run_make M F (hr.mono hk) b d C8.pass0 I1 r q
structure MakN (P : Program) (w : World) (K : PySem.W.Frag) (mg : Str → Option Value) (base : Heap) (k : Nat) (x : Str) (C : Addr) (sp : Sp) (n : Nat) (ks : List Str) (gV : List V → List V → List V) : Prop where
  ex : ∃ (f : Addr) (fd : FuncData) (ps : List Str) (g : List Value → List Value → List Value), Mk K C f ∧ FnOk P w K mg base C8.CX0 k f fd ps sp ∧ mg x = some (.ref C) ∧ KBn K fd ps (n + 1) ks g gV
theorem pe_mkN (c : MakN X.prog X.w X.K X.mg X.base k x C sp n ks gV) (hr : Room j X.A) (hk : k + 1 ≤ j) (hg : Gl X x) (ha : PA X (e :: es) t) (hkw : PK X kws tk)
    (hall : (backToKw pos (keywordEach kws X.env)).all (·.1.isSome) = true := by rfl) (hks : (backToKw pos (keywordEach kws X.env)).filterMap (·.1) = ks := by rfl)
    (hdb : (x == ("__debug__" : Str)) = false := by decide) (he : starEach (e :: es) X.env = (false, eval e X.env) :: starEach es X.env := by rfl)
    (hpl : ((backTo pos (starEach (e :: es) X.env)).any (·.1) || (backToKw pos (keywordEach kws X.env)).any (·.1.isNone)) = false := by rfl) : PE X (.Call (.Name x p) (e :: es) kws pos) (tMakeN C n ks.length sp gV C8.E0 t tk) := by
  obtain ⟨f, fd, ps, g, M, F, hm, hb⟩ := c.ex
  exact pe_makeN M F (hr.mono hk) hg hm hb C8.pass0 ha hkw hall hks hdb he hpl
end
theorem vals_drop : ∀ {vs : List V} {us : List Value} (n : Nat), Vals vs us → Vals (vs.drop n) (us.drop n)
  | _, _, 0, h => h
  | _, _, _ + 1, .nil => .nil
  | _, _, n + 1, .cons _ t => vals_drop n t
end My
namespace My
open PySem PySem.Spec PyProof.Rows L2
/-! ### sorted of a dict, all its keys ints, as many as there are -/
def rSortW : List V → Hp → VK → Prop := fun ws H Q => ∃ (d : Addr) (pairs : List (Key × V)) (ns : List Int), ws = [.ref d] ∧ Rd H d (.dK pairs) ∧ pairs.map (·.1) = ns.map Sum.inl ∧ ns.length ≤ sizeLine ∧
  ∀ (zs : List Int) (q : Addr), zs.Perm ns → zs.Pairwise (· ≤ ·) → H q = none → Q (.ref q) (upd H q (.lst (zs.map V.int)))
section
variable {X : Cx}
theorem sortedW (calm : X.calm = true) : CallR X (.builtin "sorted") rSortW := by
  intro pins st σ H ws us Q inv rel ⟨d, pairs, ns, ew, rd, ek, hz, cont⟩
  subst ew
  obtain ⟨u, eu, ru⟩ := vals1 rel
  subst eu
  cases ru
  obtain ⟨_, lo, kv, rl, dd⟩ := dk_rd inv.hok rd
  obtain ⟨ep, at1⟩ := dd.dictAt
  have keys : kv.map (·.1) = ns.map Sum.inl := rl.keys.symm.trans ek
  have len : kv.length = ns.length := by
    have := congrArg List.length keys
    simpa using this
  refine Calls.call_function_entry kind_sorted plain_sorted entry_sorted (args_sorted1 _) ?_
  unfold Builtin.«sorted»
  refine wpAny_bind (m := checkCount "sorted" 1 1 _) (wpAny_pure ?_)
  refine wpAny_bind (PySem.W.kdu_collect (A := X.A.in1) (PySem.W.kdl_dict (knd := mixKind X.prog X.w) (kvs := kv) (ep := ep) lo) (inv.ok.hd calm) at1 (by rw [len]; exact hz) fun h2 tk got keep hgot => ?_)
  have glen : got.toList.length = ns.length := by rw [Array.length_toList, hgot.1, len]
  have allI : IntsAre got.toList ns := ints_each glen fun j v e => by
    obtain ⟨k, _, e1, e2⟩ := hgot.2 j v (by rw [← Array.getElem?_toList]; exact e)
    have e3 : (ns.map (Sum.inl : Int → Key))[j]? = some k := by rw [← keys, List.getElem?_map, e1]; rfl
    rw [List.getElem?_map] at e3
    cases e4 : ns[j]? with
    | none =>
      rw [e4] at e3
      cases e3
    | some y =>
      rw [e4] at e3
      cases e3
      rcases keyIs_shape (show keyIs (Sum.inl y) v = true from e2) with ⟨i, t, ek, ev⟩ | ⟨z, t, ek, _⟩
      · cases ek
        exact ⟨y, t, rfl, ev⟩
      · cases ek
  have inv2 : Inv X pins σ H { st with heap := h2, toks := tk } := inv.kept keep
  refine wpAny_bind (wpAny_newList ?_ (by rw [glen]; exact hz))
  have here : (h2.push (seqObj "list" got.toList.toArray 0)).get? h2.objs.size = some (seqObj "list" got.toList.toArray 0) := Heap.get?_push_size _ rfl
  show wpAny _ _ _ _ _ { st with heap := h2.push (seqObj "list" got.toList.toArray 0), toks := tk }
  refine wpAny_bind (wpAny_holding (wpAny_call_entry slot_list_sort ⟨_, here, rfl⟩ entry_list_sort (SrtO.list_sort_ord SrtO.swo_int here (by rw [glen]; exact hz) (fun two => SrtO.ints_sortable allI two) fun out o1 o2 => ⟨_, rfl, ?_⟩) (args_list_sort _)))
  obtain ⟨w1, w2, w3⟩ := SrtO.ints_out allI o1 o2
  obtain ⟨ep2, at2⟩ := sortedHeap_at (vs := got.toList) (out := out.toArray) here
  have fits : ((out.map SrtO.iv).map V.int).length ≤ sizeLine := by
    rw [List.length_map, w2.length_eq]
    exact hz
  refine wpAny_pure ⟨_, rfl, .ref h2.objs.size, _, inv2.laid (t' := tk) (fun b o e => ?_) (Nat.le_refl _) (show ObjOk X.prog X.w _ _ _ (.lst ((out.map SrtO.iv).map V.int)) from ⟨fits, out, ep2, vals_of_ints w1, at2⟩), rfl, cont _ _ w2 w3 (inv2.hok.fresh (Nat.le_refl _))⟩
  have lt : b < h2.objs.size := Heap.lt_size e
  rw [sortedHeap_old (Nat.ne_of_lt lt) (by rw [size_push']; exact Nat.lt_succ_of_lt lt)]
  exact Heap.get?_push_of_some _ e
end
end My
namespace My
open PySem PySem.Spec PyProof.Rows L2
/-! ### tuple.count of a text, among texts -/
def rTupCnt (K : PySem.W.Frag) : V → List V → Hp → VK → Prop := fun x xs H Q => ∃ (p : Addr) (ys : List Str) (z : Str), x = .ref p ∧ xs = [.str z] ∧ SqT K H p (ys.map V.str) ∧ Q (.int (ys.count z : Nat)) H
section
variable {X : Cx} {K : PySem.W.Frag}
theorem cnt_vals {z : Str} : ∀ {ys : List Str} {us : List Value}, Vals (ys.map V.str) us → us.countP (eqU (.str z)) = ys.count z
  | [], _, .nil => rfl
  | y :: ys, _, .cons (b := u) r t => by
    obtain ⟨k, rfl⟩ : ∃ k, u = Value.str y k := r
    have h1 := cnt_vals (z := z) t
    rw [List.countP_cons, h1, List.count_cons]
    congr 1
theorem tup_count : MtR X "tuple.count" (rTupCnt X.K) := by
  intro pins st S0 H x xs v us Q inv rel args hyp
  obtain ⟨p, ys, z, ex, exs, seq, cont⟩ := hyp
  subst ex exs
  cases rel
  obtain ⟨u, eu, ru⟩ := vals1 args
  obtain ⟨t, et⟩ := ru
  subst eu et
  obtain ⟨items, rv, plain, small⟩ := inv.tuple seq
  obtain ⟨⟨kind, dic, dat, slo⟩, at1, ek, n, ed⟩ := plain
  simp only at ek ed
  subst ek ed
  refine call_meets PySem.F.slot_tuple_count ⟨_, at1, rfl⟩ PySem.F.entry_tuple_count (PySem.F.args_tuple_count_2 _ _)
    (SeqAt.tuple_countAt p items.toArray n dic slo (.str z t) (eqU (.str z))) ⟨at1, fun w hw => mem_eqAt (x := .str z) ⟨t, rfl⟩ rfl rv (flat_strs ys) w (by simpa using hw), ?_⟩
  rw [show items.toArray.toList.countP (eqU (.str z)) = ys.count z from cnt_vals rv]
  exact ⟨.int (ys.count z : Nat), H, inv.tok _, ⟨_, rfl⟩, cont⟩
/-- tuple(list): what is made is held as it stands, with no dict -/
def rTupleNew (K : PySem.W.Frag) : List V → Hp → VK → Prop := fun xs H Q => ∃ p ys, xs = [.ref p] ∧ SqL K H p ys ∧ ∀ l o, H l = none → o.dict = Option.none → Q (.ref l) (upd H l (.frz o (.tup ys)))
theorem tuple_new : CallR X (.type "tuple") (rTupleNew X.K) := by
  intro pins st S0 H xs us Q inv args hyp
  obtain ⟨p, ys, ex, seq, cont⟩ := hyp
  subst ex
  obtain ⟨u, eu, ru⟩ := vals1 args
  subst eu
  cases ru
  obtain ⟨items, rv, plain, small⟩ := inv.list seq
  have len := rv.length
  refine call_tuple_list plain.isList (fun h1 keep => ?_) (by simp only [List.size_toArray] <;> omega)
  have I1 : Inv X pins S0 H { st with heap := h1 } := inv.kept (t' := st.toks) keep
  have new : (h1.push { cls := .type "tuple", data := .seq items.toArray }).get? h1.objs.size = some { cls := .type "tuple", data := .seq items.toArray } := Heap.get?_push_size _ rfl
  have I2 : Inv X pins S0 (upd H h1.objs.size (.frz { cls := .type "tuple", data := .seq items.toArray } (.tup ys))) { st with heap := h1.push { cls := .type "tuple", data := .seq items.toArray } } :=
    I1.laid (t' := st.toks) (fun b o e => Heap.get?_push_of_some _ e) (Nat.le_refl _) (show ObjOk X.prog X.w _ _ _ (.frz _ (.tup ys)) from ⟨new, small, items, rv, IsTup.new _ _⟩)
  exact ⟨.ref h1.objs.size, _, I2, rfl, cont _ _ (I1.hok.fresh (Nat.le_refl _)) rfl⟩
theorem tuple_newK (h : X.K = K) : CallR X (.type "tuple") (rTupleNew K) := by subst h; exact tuple_new
/-- a tuple with no dict -/
def FrzT (H : Hp) (p : Addr) : Prop := ∃ o xs, H p = some (.frz o (.tup xs)) ∧ o.dict = Option.none
def tBMT (r : V → List V → Hp → VK → Prop) (to : TE) (t : TA) : TE := fun σ H Q => to σ H fun x H1 => (∃ p, x = .ref p ∧ FrzT H1 p) ∧ t σ H1 fun xs H2 => r x xs H2 Q
theorem pe_bmT {o e : Expr} {es : List Expr} {to : TE} {t : TA} {name : Str} {apos cpos : Pos} {id : String} {r : V → List V → Hp → VK → Prop} (pa : PlainAttrs "tuple") (slot : Slot "tuple" name id) (hty : typeOf (.builtin id) = pure (.type "method_descriptor")) (hm : MtR X id r) (ho : PE X o to) (ha : PA X (e :: es) t)
    (base : attributeBase o name X.env (eval o X.env) = eval o X.env := by rfl)
    (few : ((backTo cpos (starEach (e :: es) X.env)).all (fun z => !z.1) && (backToKw cpos (keywordEach [] X.env)).all (fun z => z.1.isSome) && decide ((e :: es).length + ([] : List Keyword).length + (if ([] : List Keyword).isEmpty then 0 else 1) < 30)) = true := by rfl)
    (line : (apos.endLine == cpos.line) = true := by rfl) (star : starEach (e :: es) X.env = (false, eval e X.env) :: starEach es X.env := by rfl) (plain : (backTo cpos (starEach es X.env)).any (·.1) = false := by rfl) :
    PE X (.Call (.Attribute o name apos) (e :: es) [] cpos) (tBMT r to t) := by
  refine ⟨fun pins st S0 H Q I h => ?_⟩
  refine wpAny_Call_method_late base few line rfl (thn (ho.run pins st S0 H _ I h) fun v s1 ⟨x, H1, I1, r1, ty, q1⟩ => ?_)
  obtain ⟨p, ex, ob, xs, hp, hd⟩ := ty
  subst ex
  cases r1
  obtain ⟨e1, _, _, _, ob2, e2, ek, _⟩ := (show ObjOk X.prog X.w H1 s1.heap p (.frz ob (.tup xs)) from I1.hok p _ hp)
  have eo : ob2 = ob := by
    rw [e1] at e2
    exact (Option.some.inj e2).symm
  subst eo
  refine ⟨"tuple", id, pa, slot, hty, ⟨ob2, e1, ek⟩, fun a ea => by cases ea; exact ⟨ob2, e1, hd⟩, ?_⟩
  have run := ha.run cpos pins s1 S0 H1 _ I1 q1
  rw [star] at run ⊢
  refine Calls.callWith_builtin (by show (false || (backTo cpos (starEach es X.env)).any (·.1)) = false; rw [plain]; rfl) (Calls.evalArgs_plain ?_)
  exact thn run fun us s2 ⟨vs, H2, I2, r2, q2⟩ => hm pins s2 S0 H2 (.ref p) vs (.ref p) us Q I2 rfl r2 q2
theorem FrzT.same {H H' : Hp} {p : Addr} (s : Same H H') (h : FrzT H p) : FrzT H' p := by
  obtain ⟨o, xs, e, d⟩ := h
  exact ⟨o, xs, s _ _ e, d⟩
theorem tup_countK (h : X.K = K) : MtR X "tuple.count" (rTupCnt K) := by subst h; exact tup_count
end
end My

namespace My
open PySem PySem.Spec PyProof.Rows L2
set_option maxHeartbeats 4000000
/-! ### tuple * int, also by 0 and by 1 -/
theorem mul_once (l : Addr) (items : Array Value) (n : Nat) (dd : Option Addr) (sl : Array (Option Value)) (u : Tok) :
    Meets (Builtin.«tuple.__mul__» ⟨[.ref l, .int 1 u], []⟩) (fun _ R s => s.heap.get? l = some { cls := .type "tuple", dict := dd, data := .seq items n, slots := sl } ∧ R (.ok (.ret (Value.ref l))) s) := .of_wp fun prog w A R s hyp => by
  obtain ⟨hp, g, d, tk, os⟩ := s
  obtain ⟨at1, cont⟩ := hyp
  have f1 := AutoSeq1.idx_int
  wp_walk using wpAny_loadPart' at1
  exact ⟨_, rfl, cont⟩
theorem mul_none (l : Addr) (items : Array Value) (n : Nat) (dd : Option Addr) (sl : Array (Option Value)) (u : Tok) (c1 : items.isEmpty = false) :
    Meets (Builtin.«tuple.__mul__» ⟨[.ref l, .int 0 u], []⟩) (fun _ R s => s.heap.get? l = some { cls := .type "tuple", dict := dd, data := .seq items n, slots := sl } ∧ R (.ok (.ret (Value.ref s.heap.objs.size))) { s with heap := s.heap.push { cls := Value.type "tuple", data := Data.seq #[] }, toks := s.toks }) := .of_wp fun prog w A R s hyp => by
  obtain ⟨hp, g, d, tk, os⟩ := s
  obtain ⟨at1, cont⟩ := hyp
  have f1 := AutoSeq1.idx_int
  wp_walk using wpAny_loadPart' at1
  exact ⟨_, rfl, cont⟩
def rRepA (K : PySem.W.Frag) : R2 := fun x y H Q => ∃ l k xs, x = .ref l ∧ y = .int k ∧ SqT K H l xs ∧ xs ≠ [] ∧ 0 ≤ k ∧ k ≤ 1000 ∧ xs.length ≤ 1000 ∧ (k = 1 → Q (.ref l) H) ∧ (k ≠ 1 → ∀ p, H p = none → Q (.ref p) (upd H p (.tup (List.replicate k.toNat xs).flatten)))
section
variable {X : Cx}
theorem op_repA : OpR X (binaryOp .Mult) (rRepA X.K) := by
  intro pins st S0 H x y v u Q inv rel rel2 hyp
  obtain ⟨l, k, xs, ex, ey, seq, hne, h0, h1, hz, q1, q2⟩ := hyp
  subst ex ey
  by_cases k2 : 2 ≤ k
  · exact op_repT pins st S0 H _ _ v u Q inv rel rel2 ⟨l, k, xs, rfl, rfl, seq, hne, k2, h1, hz, q2 (by omega)⟩
  cases rel
  obtain ⟨t, et⟩ := rel2
  subst et
  obtain ⟨items, rv, plain, small⟩ := inv.tuple seq
  obtain ⟨⟨kind, dic, dat, slo⟩, at1, ek, n, ed⟩ := plain
  simp only at ek ed
  subst ek ed
  have full : items.toArray.isEmpty = false := by
    cases items with
    | nil => exact absurd (List.eq_nil_of_length_eq_zero rv.length) hne
    | cons a b => rfl
  rcases (show k = 0 ∨ k = 1 by omega) with e | e
  · subst e
    refine wpAny_binaryOp_repeat_ref (T := "tuple") (U := "int") (by decide) ⟨_, at1, rfl⟩ (fun s2 => typeIs_int s2 0 t) noFill_tuple_mul F.fills_int_mul F.slot_int_rmul repeat_tuple F.slot_int_index.lookup
      (call_meets F.slot_int_rmul (typeIs_int st 0 t) F.entry_int_rmul (F.args_int_rmul_2 _ _) (int_rmul_tuple 0 t l items.toArray n dic slo) ⟨at1, rfl, ⟨_, at1, rfl⟩, call_meets F.slot_tuple_mul ⟨_, at1, rfl⟩ F.entry_tuple_mul (F.args_tuple_mul_2 _ _) (mul_none l items.toArray n dic slo t full) ⟨at1, ?_⟩⟩)
    exact ⟨.ref st.heap.objs.size, _, inv.laid (t' := st.toks) (o := .tup []) (fun b ob q => Heap.get?_push_of_some _ q) (Nat.le_refl _) ⟨Nat.zero_le _, [], .nil, IsTup.new _ _⟩, rfl, q2 (by decide) _ (inv.hok.fresh (Nat.le_refl _))⟩
  · subst e
    refine wpAny_binaryOp_repeat_ref (T := "tuple") (U := "int") (by decide) ⟨_, at1, rfl⟩ (fun s2 => typeIs_int s2 1 t) noFill_tuple_mul F.fills_int_mul F.slot_int_rmul repeat_tuple F.slot_int_index.lookup
      (call_meets F.slot_int_rmul (typeIs_int st 1 t) F.entry_int_rmul (F.args_int_rmul_2 _ _) (int_rmul_tuple 1 t l items.toArray n dic slo) ⟨at1, rfl, ⟨_, at1, rfl⟩, call_meets F.slot_tuple_mul ⟨_, at1, rfl⟩ F.entry_tuple_mul (F.args_tuple_mul_2 _ _) (mul_once l items.toArray n dic slo t) ⟨at1, ?_⟩⟩)
    exact ⟨.ref l, H, inv, rfl, q1 rfl⟩
theorem repAK {K : PySem.W.Frag} (h : X.K = K) : OpR X (binaryOp .Mult) (rRepA K) := by subst h; exact op_repA
end
end My
namespace My
open PyProof.Rows PySem.Spec PySem
abbrev freshSet (b : Bool) : Obj := { cls := Value.type "set", dict := Option.none, data := .set #[] 0 (.fresh 0 0 b) }
/-! ### len(set(t)), t a tuple of texts, each one once -/
section
variable {w : World} {prog : Program} {A : Around} {R : Result → Shared → Prop} {I : Addr} {fp wr : List Addr} {G : Array GenState → Array GenState → Prop} {n : Nat} {P : Nat → Value → Prop} {St : Nat → Shared → Prop}
theorem take_not {zs : List Str} (dist : zs.Nodup) {i : Nat} (hi : i < zs.length) : zs.getD i Str.empty ∉ zs.take i := by
  intro mem
  rw [List.getD_eq_getElem?_getD, List.getElem?_eq_getElem hi, Option.getD_some] at mem
  obtain ⟨j, ej⟩ := List.mem_iff_getElem?.mp mem
  rw [List.getElem?_take] at ej
  split at ej
  · rename_i lt
    obtain ⟨jl, e⟩ := List.getElem?_eq_some_iff.mp ej
    exact absurd e (List.pairwise_iff_getElem.mp dist j i jl hi lt)
  · cases ej
theorem take_next {zs : List Str} {i : Nat} (hi : i < zs.length) : zs.take (i + 1) = zs.take i ++ [zs.getD i Str.empty] := by
  rw [List.take_add_one, List.getD_eq_getElem?_getD, List.getElem?_eq_getElem hi]
  rfl
theorem loopD (walk : WalksS prog w A.in1 I fp wr G n P St) {S : Addr} (out : S ∉ fp) {zs : List Str} (dist : zs.Nodup) (len : zs.length = n) (room : n + 1 < scanBound)
    (what : ∀ i v, P i v → ∃ t, v = .str (zs.getD i Str.empty) t) (left : Nat) : ∀ (i : Nat) (s : Shared), i + left = n → St i s →
      s.heap.SetOf (PySem.strKind prog w) S (fun k => decide (k ∈ zs.take i)) i →
      (∀ s', Moved (S :: wr) G s s' → s'.heap.SetOf (PySem.strKind prog w) S (fun k => decide (k ∈ zs)) n → R (.ok (.ret .none)) s') →
      codeAny (model prog w) A (Code.builtin "set.update.loop" ⟨[.ref S, .ref I], []⟩) R s := by
  have apart : S ∉ wr := fun z => out (walk.sub S z)
  have keepS : ∀ (s s' : Shared) (T : Str → Bool) (m : Nat), Moved wr G s s' → s.heap.SetOf (PySem.strKind prog w) S T m → s'.heap.SetOf (PySem.strKind prog w) S T m :=
    fun s s' T m mv ⟨o, es, ep, t, at1, more⟩ => ⟨o, es, ep, t, mv.heap S o apart at1, more⟩
  induction left with
  | zero =>
    intro i s e st has go
    obtain rfl : i = n := e
    refine codeAny_builtin (PyProof.Rows.F.entry_set_update_loop) ?_
    rw [Around.under_plainId PyProof.Rows.F.plain_set_update_loop]
    refine wpAny_bind (walk.done s _ _ st fun s1 mv => wpAny_pure (go s1 (mv.mono fun b hb => .tail _ hb) ?_))
    have h1 := keepS _ _ _ _ mv has
    rw [List.take_of_length_le (Nat.le_of_eq len)] at h1
    exact h1
  | succ left rec =>
    intro i s e st has go
    have lt : i < n := by omega
    refine codeAny_builtin (PyProof.Rows.F.entry_set_update_loop) ?_
    rw [Around.under_plainId PyProof.Rows.F.plain_set_update_loop]
    refine wpAny_bind (walk.item i s _ _ lt st fun v s1 pv st1 mv => ?_)
    obtain ⟨t, ev⟩ := what i v pv
    subst ev
    have h1 := keepS _ _ _ _ mv has
    refine wpAny_bind (wpAny_holding (wpAny_holding (wpAny_bind ((PySem.strKind prog w).pyHash (k := zs.getD i Str.empty) (strKind_is _ _ _ _) ?_))))
    refine wpAny_setAddHashed_of (knd := PySem.strKind prog w) (s := { s1 with toks := s1.toks + 1 }) (strKind_is _ _ _ _) rfl h1 (by omega) fun h2 but set2 => ?_
    have no := take_not dist (show i < zs.length by omega)
    have set3 : h2.SetOf (PySem.strKind prog w) S (fun k => decide (k ∈ zs.take (i + 1))) (i + 1) := by
      refine SetOf_congr set2 (fun k => ?_) (by rw [decide_eq_false no, if_neg Bool.false_ne_true])
      rw [take_next (show i < zs.length by omega)]
      simp only [List.mem_append, List.mem_singleton, Bool.decide_or]
    refine wpAny_pure ⟨plainId_quiet PyProof.Rows.F.plain_set_update_loop _, rec (i + 1) _ (by omega) (walk.frame _ s1 _ _ st1 (Nat.le_succ _) fun b hb o eb => ?_) set3 fun s3 mv3 => ?_⟩
    · rw [but.2 b (fun z : b = S => out (z ▸ hb))]
      exact eb
    · refine go s3 (Moved.trans walk.gtrans ((mv.mono fun b hb => .tail _ hb).then_heap (Nat.le_succ _) fun b o hb eb => ?_) mv3)
      rw [but.2 b (fun z : b = S => hb (z ▸ List.mem_cons_self ..))]
      exact eb
end
section
variable {w : World} {prog : Program} {A : Around} {E : Value → Shared → Prop} {s : Shared}
set_option maxHeartbeats 3000000 in
theorem setD {l : Addr} {arr : Array Value} {zs : List Str} {Q : Value → Shared → Prop} (calm : A.handled = Option.none) (tup : s.heap.IsTuple l arr) (are : StrsAre arr.toList zs) (dist : zs.Nodup) (room : zs.length + 1 < scanBound)
    (go : ∀ (h2 : Heap) (tk : Nat), h2.SetOf (PySem.strKind prog w) s.heap.objs.size (fun k => decide (k ∈ zs)) zs.length → (∀ b o, b < s.heap.objs.size → s.heap.get? b = some o → h2.get? b = some o) → Q (.ref s.heap.objs.size) { s with heap := h2, toks := tk }) :
    wpAny (model prog w) A (call (Value.type "set") [Value.ref l]) Q E s := by
  have len : zs.length = arr.size := (StrsAre.len_eq are).symm.trans Array.length_toList
  obtain ⟨cls1, rest1, mro1⟩ := PySem.F.called_set.mro
  have made1 := PySem.F.called_set.made
  have sub1 := PySem.F.called_set.sub
  refine wpAny_call (codeAny_of_tree (wpAny_pure ⟨Code.quiet_builtin _ (by decide +kernel), codeAny_builtin PySem.F.entry_type_call ?_⟩))
  rw [Around.under_plain (weight_type_call_type "set" [Value.ref l] []) rfl]
  have not1 := PySem.F.called_set.notType
  have can1 := PySem.F.called_set.canCreate
  have call1 := PySem.F.typeCall_set_1 (.ref l)
  repeat any_goals (first | assumption | wp_step)
  refine codeAny_mono (code_set_new_1 (.ref l) (E := E) (Q₁ := fun obj st => ∃ b : Bool, obj = .ref s.heap.objs.size ∧ st = { s with heap := s.heap.push (freshSet b) }) fun b => ⟨b, rfl, rfl⟩) fun res st hres => ?_
  cases res with
  | error e => exact hres
  | ok fl =>
    cases fl with
    | ret obj =>
      obtain ⟨b, eo, es⟩ := hres
      subst eo es
      have atS : (s.heap.push (freshSet b)).get? s.heap.objs.size = some (freshSet b) := Heap.get?_push_size _ rfl
      have isS : Shared.TypeIs { s with heap := s.heap.push (freshSet b) } (.ref s.heap.objs.size) "set" := ⟨_, atS, rfl⟩
      have look1 := PySem.F.called_set.init.lookup
      have bind1 := PySem.F.called_set.init.bind (.ref s.heap.objs.size)
      repeat any_goals (first | assumption | wp_step)
      refine codeAny_mono (codeAny_call_builtin (R := wants (fun r st => r = .none ∧ ∃ h2 tk, st = { s with heap := h2, toks := tk } ∧ h2.SetOf (PySem.strKind prog w) s.heap.objs.size (fun k => decide (k ∈ zs)) zs.length ∧
          ∀ b o, b < s.heap.objs.size → s.heap.get? b = some o → h2.get? b = some o) E) PySem.F.called_set.init.plain PySem.F.entry_set_init (check_set_init_1 isS ?_)) fun res2 st2 hres2 => ?_
      · obtain ⟨⟨ocls, odic, odat, oslo⟩, at0, ec, nn, ed⟩ := tup
        simp only at ec ed
        subst ec ed
        have at1 := Heap.get?_push_of_some (freshSet b) at0
        have nosub1 := PySem.F.sub_tuple_set
        have nosub2 := PySem.F.sub_tuple_frozenset
        have nodict : (Value.type "tuple" == Value.type "dict") = false := by decide
        have tup1 : (s.heap.push (freshSet b)).IsTuple l arr := ⟨_, at1, rfl, nn, rfl⟩
        unfold Builtin.«set.__init__»
        unfold noKeywords Builtin.Frozenset.updateFrom
        generalize hold : pyIter = PIter
        wp_walk
        subst hold
        refine wpAny_pyIter_tuple tup1 (wpAny_bind (wpAny_runValue ?_))
        have lt0 : l < s.heap.objs.size := Heap.lt_size at0
        have calm3 : A.in1.in1.in1.handled = Option.none := by simp [calm]
        have neI : l ≠ (s.heap.push (freshSet b)).objs.size := by
          rw [Heap.size_push]
          exact fun z => Nat.lt_irrefl _ (Nat.lt_trans (z ▸ lt0 : s.heap.objs.size + 1 < s.heap.objs.size) (Nat.lt_succ_self _))
        have outS : s.heap.objs.size ∉ [(s.heap.push (freshSet b)).objs.size, l] := by
          rw [Heap.size_push]
          simp only [List.mem_cons, List.not_mem_nil, or_false]
          exact fun z => z.elim (fun y => absurd y (Nat.ne_of_lt (Nat.lt_succ_self _))) fun y => absurd y (Nat.ne_of_gt lt0)
        refine loopD ((Walks.tuple calm3 _ l neI arr).toS) outS dist len (by omega) (fun i v hv => SS.strs_at are i v (by rw [Array.getElem?_toList]; exact hv)) arr.size 0 _ (Nat.zero_add _) ⟨⟨_, Heap.get?_push_size _ rfl, rfl, rfl⟩, tup1.push _⟩ ?_ ?_
        · exact SetOf_congr ((setObjOf_fresh (knd := PySem.strKind prog w) b).setOf (Heap.get?_push_of_some _ atS) (by unfold scanBound; omega)) (fun k => by simp) rfl
        · intro s3 mv has
          obtain ⟨h3, g3, d3, t3, os3⟩ := s3
          obtain rfl : g3 = s.gens := mv.gens
          obtain rfl : d3 = s.drawn := mv.drawn
          obtain rfl : os3 = s.os := mv.os
          refine wpAny_pure (wpAny_pure ⟨rfl, h3, t3, rfl, by rw [len]; exact has, fun c o hc ec => ?_⟩)
          refine mv.heap c o ?_ (Heap.get?_push_of_some _ (Heap.get?_push_of_some _ ec))
          rw [Heap.size_push]
          simp only [List.mem_cons, List.not_mem_nil, or_false]
          exact fun z => z.elim (fun y => absurd y (Nat.ne_of_lt hc)) fun y => absurd y (Nat.ne_of_lt (Nat.lt_succ_of_lt hc))
      · cases res2 with
        | error e => exact hres2
        | ok fl2 =>
          cases fl2 with
          | ret r =>
            obtain ⟨er, h2, tk, e2, has, keep⟩ := hres2
            subst er e2
            repeat any_goals (first | assumption | wp_step)
            exact go _ _ has keep
          | _ => exact hres2.elim
    | _ => exact hres.elim
end
open L2
def tLenSetT (K : PySem.W.Frag) (ta : TE) : TE := fun σ H Q => ta σ H fun x H1 => ∃ (l : Addr) (zs : List Str), x = .ref l ∧ SqT K H1 l (zs.map V.str) ∧ zs.Nodup ∧ zs.length ≤ 1000 ∧ Q (.int (zs.length : Nat)) H1
section
variable {X : Cx}
theorem pe_lenSetT {K : PySem.W.Frag} (hK : X.K = K) {a : Expr} {ta : TE} {p p2 q pos : Pos} (calm : X.calm = true) (g1 : Gl X "len") (m1 : X.mg "len" = Option.none) (g2 : Gl X "set") (m2 : X.mg "set" = Option.none) (arg : PE X a ta)
    (one : starEach [a] X.env = (false, eval a X.env) :: starEach [] X.env := by rfl) : PE X (.Call (.Name "len" p) [.Call (.Name "set" p2) [a] [] q] [] pos) (tLenSetT K ta) := by
  subst hK
  refine ⟨fun pins s σ H Q inv hyp => Call_ (ld_blt inv g1 m1 boot_len ?_)⟩
  refine callWith_builtin1 (args_cons (Call_ (ld_blt inv g2 m2 boot_set ?_)) rfl) rfl rfl
  refine callWith_type1 (args_cons (thn (arg.run pins s σ H _ inv hyp) fun v s1 ⟨x, H1, inv1, rel, more⟩ => args_nil ?_) one) one rfl
  obtain ⟨l, zs, ex, seq, dist, small, fin⟩ := more
  subst ex
  cases rel
  obtain ⟨its, rv, plain, _⟩ := inv1.tuple seq
  refine setD (inv1.ok.hd calm) plain (by simpa using strsAre_of rv) dist (by unfold scanBound; omega) fun h2 tk has keep => args_nil ?_
  obtain ⟨o, es, ep, t, at1, exact1, dat, _, _, _, fits, cnt⟩ := has
  have inv2 : Inv X pins σ H1 { s1 with heap := h2, toks := tk } := inv1.kept fun b o eb => keep b o (Heap.lt_size eb) eb
  exact call_len_set at1 exact1 dat fits (by rw [cnt]; omega) ⟨.int (zs.length : Nat), H1, inv2.tok _, ⟨_, by rw [cnt]⟩, fin⟩
end
end My
namespace My
open PyProof.Rows PySem.Spec PySem L2
/-! ### t[::-1], t a tuple -/
section
variable {w : World} {prog : Program} {A : Around} {E : Value → Shared → Prop} {s : Shared}
theorem adjust_rev (n : Nat) : Builtin.Slice.sliceAdjust none none (-1) (n : Int) = ((n : Int) - 1, -1) := rfl
theorem places_rev (n : Nat) : Builtin.Slice.slicePlaces ((n : Int) - 1) (-1) (-1) = n := by
  unfold Builtin.Slice.slicePlaces; rw [if_neg (by decide)]
  split <;> simp <;> omega
theorem fm_congr {α β : Type} {f g : α → Option β} : ∀ {l : List α}, (∀ x ∈ l, f x = g x) → l.filterMap f = l.filterMap g
  | [], _ => rfl
  | x :: l, h => by rw [List.filterMap_cons, List.filterMap_cons, h x (List.mem_cons_self ..), fm_congr fun y hy => h y (List.mem_cons_of_mem _ hy)]
theorem pick_rev (xs : Array Value) : ((List.range xs.size).filterMap fun (k : Nat) => xs[((xs.size : Int) - 1 + (k : Int) * -1).toNat]?).toArray = xs.toList.reverse.toArray := by
  have all := PySem.W.krv_all xs.toList.reverse.toArray
  rw [List.size_toArray, List.length_reverse, Array.length_toList] at all
  refine congrArg List.toArray (Eq.trans (fm_congr fun k hk => ?_) all)
  have lt := List.mem_range.mp hk
  have r : xs.toList.reverse.toArray[k]? = xs.toList.reverse[k]? := by simp
  rw [show ((xs.size : Int) - 1 + (k : Int) * -1).toNat = xs.size - 1 - k by omega, r, List.getElem?_reverse (by rw [Array.length_toList]; exact lt), Array.length_toList, Array.getElem?_toList]
theorem applied_rev {sl : Addr} {u : Tok} {n : Nat} {Q : Int × Int × Nat → Shared → Prop} (sli : s.heap.IsSliceOf sl .none .none (.int (-1) u)) (go : Q ((n : Int) - 1, -1, n) s) : wpAny (model prog w) A (Builtin.Slice.sliceApplied (.ref sl) (pure (n : Int))) Q E s := by
  obtain ⟨o, at1, cls1, dat1⟩ := sli
  unfold Builtin.Slice.sliceApplied
  unfold Builtin.Slice.sliceFields
  refine wpAny_bind (wpAny_bind (wpAny_field at1 dat1 (x := .none) rfl (wpAny_bind (wpAny_field at1 dat1 (x := .none) rfl (wpAny_bind (wpAny_field at1 dat1 (x := .int (-1) u) rfl (wpAny_pure ?_)))))))
  refine wpAny_bind (slicePart_int ?_)
  show wpAny _ _ (if ((-1 : Int) == 0) = true then _ else _) _ _ s
  rw [if_neg (by decide)]
  refine wpAny_bind (slicePart_none (wpAny_bind (slicePart_none (wpAny_bind (wpAny_pure ?_)))))
  have e : (match Builtin.Slice.sliceAdjust none none (-1) (n : Int) with | (lo, hi) => (lo, (-1 : Int), Builtin.Slice.slicePlaces lo hi (-1))) = ((n : Int) - 1, -1, n) := by
    rw [adjust_rev]
    show ((n : Int) - 1, (-1 : Int), Builtin.Slice.slicePlaces ((n : Int) - 1) (-1) (-1)) = _
    rw [places_rev]
  have go2 := go
  rw [← e] at go2
  exact wpAny_pure go2
set_option maxHeartbeats 1600000 in
theorem item_rev {t sl : Addr} {arr : Array Value} {u : Tok} {Q : Value → Shared → Prop} (tup : IsTup s.heap t arr) (sli : s.heap.IsSliceOf sl .none .none (.int (-1) u)) (small : arr.size ≤ sizeLine)
    (go : Q (.ref s.heap.objs.size) { s with heap := s.heap.push { cls := .type "tuple", data := .seq arr.toList.reverse.toArray } }) : wpAny (model prog w) A (getItem (.ref t) (.ref sl)) Q E s := by
  have fits : sizeOk (.seq arr.toList.reverse.toArray) := by
    show arr.toList.reverse.toArray.size ≤ sizeLine
    rw [List.size_toArray, List.length_reverse, Array.length_toList]
    exact small
  have isS : s.TypeIs (.ref sl) "slice" := by
    obtain ⟨o, at1, cls1, _⟩ := id sli
    exact ⟨o, at1, cls1⟩
  unfold getItem
  try (with_reducible refine wpAny_holding ?_)
  first | (refine wpAny_bind (wpAny_pure ?_)) | skip
  refine wpAny_bind (wpAny_sequenceKey tup.typeIs (by decide) (wpAny_bind (wpAny_callSpecial?_slot (name := Str.ofString "__getitem__") tup.typeIs PyProof.Rows.slot_tuple_getitem
    (wpAny_call_entry PyProof.Rows.slot_tuple_getitem tup.typeIs entry_tuple_getitem ?_ (args_tuple_getitem _ _)))))
  show wpAny _ _ (Builtin.Tuple.tupleItemsOf (Value.ref t) >>= _) _ _ s
  refine wpAny_bind (tupleItemsOf_ tup (wpAny_bind (wpAny_typeOf isS ?_)))
  rw [if_pos (by decide)]
  refine wpAny_bind (applied_rev sli ?_)
  have no : ¬ ((((arr.size : Int) - 1 == 0) && ((-1 : Int) == 1) && (arr.size == arr.size)) = true) := by
    rw [show ((-1 : Int) == 1) = false from rfl, Bool.and_false, Bool.false_and]
    exact Bool.false_ne_true
  show wpAny _ _ (if ((((arr.size : Int) - 1 == 0) && ((-1 : Int) == 1) && (arr.size == arr.size)) = true) then _ else _) _ _ s
  rw [if_neg no, pick_rev]
  first | exact wpAny_bind (m := Builtin.Tuple.tupleExact _) (wpAny_newObj_type (wpAny_pure ⟨_, rfl, wpAny_pure go⟩) fits) | exact wpAny_bind (m := Builtin.Tuple.tupleExact _) (wpAny_newObj_type (wpAny_bind (wpAny_pure (wpAny_pure ⟨_, rfl, wpAny_pure go⟩))) fits) | exact wpAny_bind (wpAny_bind (m := Builtin.Tuple.tupleExact _) (wpAny_newObj_type (wpAny_pure (wpAny_pure ⟨_, rfl, wpAny_pure go⟩)) fits)) | exact wpAny_bind (wpAny_bind (m := Builtin.Tuple.tupleExact _) (wpAny_newObj_type (wpAny_pure ⟨_, rfl, wpAny_pure go⟩) fits))
end
def tRevT (K : PySem.W.Frag) (te : TE) : TE := fun σ H Q => te σ H fun x H1 => ∃ a xs, x = .ref a ∧ SqT K H1 a xs ∧ ∀ p, H1 p = Option.none → Q (.ref p) (upd H1 p (.tup xs.reverse))
theorem pe_revT {X : Cx} {K : PySem.W.Frag} (hK : X.K = K) {e : Expr} {te : TE} {k : Nat} {p1 p2 p3 pos : Pos} (he : PE X e te) : PE X (.Subscript e (.Slice Option.none Option.none (some (.UnaryOp .USub (.Constant (.int 1) k p1) p2)) p3) pos) (tRevT K te) := by
  subst hK
  refine ⟨fun pins s σ H Q inv hyp => Subscript_ (thn (he.run pins s σ H _ inv hyp) fun v s1 ⟨x, H1, inv1, rel, a, xs, ex, seq, go⟩ => ?_)⟩
  subst ex
  cases rel
  have step : PO X (some (.UnaryOp .USub (.Constant (.int 1) k p1) p2)) (tPart (tUn (rU fun i => .int (-i)) (tC (.int 1)))) := po_some (pe_un un_neg pe_int)
  refine wpAny_Slice (thn (po_none.run pins s1 σ H1 (fun o J => o = Option.none ∧ J = H1) inv1 ⟨rfl, rfl⟩) fun vl s2 ⟨l, J1, inv2, pl, el, e1⟩ => ?_)
  subst el e1
  refine thn (po_none.run pins s2 σ J1 (fun o J => o = Option.none ∧ J = J1) inv2 ⟨rfl, rfl⟩) fun vu s3 ⟨l2, J2, inv3, pu, eu, e2⟩ => ?_
  subst eu e2
  refine thn (step.run pins s3 σ J2 (fun o J => o = some (-1) ∧ J = J2) inv3 ⟨1, rfl, -1, rfl, rfl, rfl⟩) fun vs s4 ⟨o, J3, inv4, ps, eo, e3⟩ => ?_
  subst eo e3
  obtain ⟨tk, ek⟩ : ∃ t, vs = Value.int (-1) t := by
    cases ps
    exact ⟨_, rfl⟩
  have el : vl = Value.none := by
    cases pl
    rfl
  have eu : vu = Value.none := by
    cases pu
    rfl
  subst ek el eu
  have inv5 : L2.Inv X pins σ J3 { s4 with heap := s4.heap.push { cls := .type "slice", data := .fields #[Value.none, Value.none, Value.int (-1) tk] } } := inv4.kept (t' := s4.toks) fun b ob q => Heap.get?_push_of_some _ q
  obtain ⟨its, rv, tup, small⟩ := inv5.tuple seq
  show wpAny (model X.prog X.w) X.A (subscriptTail e (.Slice Option.none Option.none (some (.UnaryOp .USub (.Constant (.int 1) k p1) p2)) p3) (.ref a) (.ref s4.heap.objs.size)) (EP X pins σ Q) X.xe { s4 with heap := s4.heap.push { cls := .type "slice", data := .fields #[Value.none, Value.none, Value.int (-1) tk] } }
  refine tail_any (ops := [.ref a, .ref s4.heap.objs.size]) tup.typeIs PyProof.Rows.slot_tuple_getitem.lookup (item_rev tup (Heap.IsSliceOf.new _ Value.none Value.none (Value.int (-1) tk)) (by rw [List.size_toArray, ← rv.length]; exact small) ?_) (by with_unfolding_all rfl)
  refine ⟨.ref _, _, inv5.laid (t' := s4.toks) (o := .tup xs.reverse) (fun b ob q => Heap.get?_push_of_some _ q) (Nat.le_refl _) ⟨by rw [List.length_reverse]; exact small, _, rv.reverse, IsTup.new _ _⟩, rfl, go _ (inv5.hok.fresh (Nat.le_refl _))⟩
/-! ### o.m(p1=.., p2=..): a method, its arguments by name, in their order -/
structure MetN (P : Program) (w : World) (K : PySem.W.Frag) (mg : Str → Option Value) (base : Heap) (k : Nat) (C : Addr) (m : Str) (sp : Sp) (ks : List Str) (gV : List V → List V → List V) : Prop where
  ex : ∃ (f : Addr) (fd : FuncData) (ps : List Str) (g : List Value → List Value → List Value), Cls K C ∧ Meth K C m f ∧ FnOk P w K mg base C8.CX0 k f fd ps sp ∧ KBn K fd ps 1 ks g gV
def tMethN (C : Addr) (m : Str) (nk : Nat) (sp : Sp) (gV : List V → List V → List V) (ta : TE) (tk : TA) : TE := fun σ H Q => ta σ H fun x H1 => ∃ a dx fs, x = .ref a ∧ H1 a = some (.ins C dx fs) ∧ fs.lookup m = Option.none ∧
  tk σ H1 fun zs H2 => zs.length = nk ∧ sp (gV [V.ref a] zs) H2 Q C8.E0
def kwGm {α : Type} (us ws : List α) : List α := match us, ws with
  | [a], [x, y] => [a, x, y]
  | _, _ => []
theorem kwm_of {K : PySem.W.Frag} {x qual : Str} {params : Arguments} {body : List Stmt} {scope : Scope} {kws : List (Str × V)} {f : Addr} {fd : FuncData} {p0 p1 p2 : Str} (F : FunD K x qual params body scope [] kws f fd)
    (h : ∀ (kV doc pm : Value) (an : Option Addr) (cdv ct : Value) (a u v : Value), bindArgs (PySem.W.fnOf x qual params body scope .none kV doc pm an cdv ct) ⟨[a], [(p1, u), (p2, v)]⟩ = pure [(p0, a), (p1, u), (p2, v)]) : KBn K fd [p0, p1, p2] 1 [p1, p2] kwGm kwGm := by
  obtain ⟨oc, od, dV, kV, doc, pm, an, cdv, ct, osl, efd, lk, hcd, hD, hK⟩ := F.ex
  subst efd
  rcases hD with ⟨_, ed⟩ | ⟨e, _⟩
  · subst ed
    refine ⟨fun s us ws _ l1 l2 => ?_, fun {vs us zs ws} r1 r2 => ?_⟩
    · match us, ws, l1, l2 with
      | [a], [u, v], _, _ => exact .of_eq (h kV doc pm an cdv ct a u v)
    · match vs, us, zs, ws, r1, r2 with
      | [], _, _, _, .nil, _ => exact .nil
      | [_], _, [], _, .cons _ .nil, .nil => exact .nil
      | [_], _, [_], _, .cons _ .nil, .cons _ .nil => exact .nil
      | [_], _, [_, _], _, .cons a .nil, .cons b (.cons c .nil) => exact .cons a (.cons b (.cons c .nil))
      | [_], _, _ :: _ :: _ :: _, _, .cons _ .nil, .cons _ (.cons _ (.cons _ _)) => exact .nil
      | _ :: _ :: _, _, _, _, .cons _ (.cons _ _), _ => exact .nil
  · exact absurd rfl e
theorem pe_mtN {X : Cx} {k j : Nat} {C : Addr} {m : Str} {sp : Sp} {ks : List Str} {gV : List V → List V → List V} {o : Expr} {ta : TE} {tk : TA} {kws : List Keyword} {apos pos : Pos} {pl : Sem Bool} (c : MetN X.prog X.w X.K X.mg X.base k C m sp ks gV) (hr : Room j X.A) (hk : k ≤ j) (he : PE X o ta) (hkw : PK X kws tk)
    (hall : (backToKw pos (keywordEach kws X.env)).all (·.1.isSome) = true := by rfl) (hks : (backToKw pos (keywordEach kws X.env)).filterMap (·.1) = ks := by rfl)
    (hpl : ((backTo pos (starEach [] X.env)).any (·.1) || (backToKw pos (keywordEach kws X.env)).any (·.1.isNone)) = false := by rfl)
    (ht : eval (.Call (.Attribute o m apos) [] kws pos) X.env = (do
      let ov ← eval o X.env
      standAt apos.atName
      let (f, first) ← holding [ov] (getMethod ov m (pl))
      callWith pos f first (backTo pos (starEach [] X.env)) (backToKw pos (keywordEach kws X.env))) := by rfl) : PE X (.Call (.Attribute o m apos) [] kws pos) (tMethN C m ks.length sp gV ta tk) := by
  obtain ⟨f, fd, ps, g, cl, hm, F, hb⟩ := c.ex
  refine ⟨fun pins s σ H Q inv hyp => PySem.W.methodCall_KW (pl := pl) (thn (he.run pins s σ H _ inv hyp) fun u s1 ⟨x, H1, inv1, rx, a, dx, fs, ex, ea, lk, more⟩ => ?_) ht⟩
  subst ex
  cases rx
  refine getmeth_ok inv1 ea cl hm lk ?_
  refine PySem.W.callWith_KW0 (first := [Value.ref a]) (h₀ := X.base) inv.ok.mod.kin hm.kp hall (thn (hkw.run pos pins s1 σ H1 _ inv1 more) fun ws s2 ⟨zs, H2, inv2, rz, len, fin⟩ => ⟨inv2.kIn, ?_⟩) hpl
  rw [hks]
  have pass : Passes C8.CX0 X C8.E0 := C8.pass0
  have rel := hb.rel (vs := [V.ref a]) (us := [Value.ref a]) (.cons rfl .nil) rz
  refine wpAny_call (codeAny_mono (F.run X.A X.stack s2 H2 ⟨[Value.ref a], ks.zip ws⟩ (g [Value.ref a] ws) (gV [V.ref a] zs) Q C8.E0 (hr.mono hk) inv2.env0 (hb.to s2 [Value.ref a] ws inv2.kIn rfl (rz.length.symm.trans len)) rel fin) fun res s3 hres => ?_)
  cases res with
  | error e => exact pass pins σ H2 s2 e s3 inv2 hres
  | ok fl =>
    cases fl with
    | ret u => exact inv2.after hres
    | _ => exact False.elim hres
/-! ### C(k=.., ..): an instance, all arguments by name -/
theorem pe_mkK {X : Cx} {k j : Nat} {x : Str} {C : Addr} {sp : Sp} {ks : List Str} {gV : List V → List V → List V} {p pos : Pos} {kws : List Keyword} {tk : TA} (c : MakN X.prog X.w X.K X.mg X.base k x C sp 0 ks gV) (hr : Room j X.A) (hk : k + 1 ≤ j) (hg : Gl X x) (hkw : PK X kws tk)
    (hall : ((backToKw pos (keywordEach kws X.env)).all (·.1.isSome)) = true := by rfl) (hks : (backToKw pos (keywordEach kws X.env)).filterMap (·.1) = ks := by rfl) (hdb : (x == ("__debug__" : Str)) = false := by decide)
    (hpl : ((backTo pos (starEach [] X.env)).any (·.1) || (backToKw pos (keywordEach kws X.env)).any (·.1.isNone)) = false := by rfl) : PE X (.Call (.Name x p) [] kws pos) (tMakeK C 0 ks.length sp gV C8.E0 tNil tk) := by
  obtain ⟨f, fd, ps, g, M, F, hm, hb⟩ := c.ex
  exact pe_makeK0 M F (hr.mono hk) hg hm hb C8.pass0 hkw hall hks hdb hpl
/-! ### + of tuples and parts of them, over a K of its own -/
theorem catTK {X : Cx} {K : PySem.W.Frag} (h : X.K = K) : OpR X (binaryOp .Add) (rCatT K) := by subst h; exact op_catT
theorem slTK {X : Cx} {K : PySem.W.Frag} (h : X.K = K) : SlR X (rSlT K) := by subst h; exact sl_tup
end My
namespace My
open PyProof.Rows PySem.Spec PySem L2
section
variable {X : Cx} {K : PySem.W.Frag} {o e : Expr} {to te : TE} {apos pos : Pos}
/-! ### sep.join(xs) -/
def rJoin (K : PySem.W.Frag) : V → List V → Hp → VK → Prop := fun x xs H Q => ∃ a p, ∃ ys : List Str, x = .str a ∧ xs = [.ref p] ∧ (SqL K H p (ys.map V.str) ∨ SqT K H p (ys.map V.str)) ∧ (ys.map (·.length)).sum + ys.length * a.length ≤ 16777216 ∧ Q (.str (Txt.join a ys)) H
theorem pe_joinK (h : X.K = K) (ho : PE X o to) (he : PE X e te) (hs : starEach [e] X.env = [(false, eval e X.env)] := by rfl) (hbase : attributeBase o "join" X.env (eval o X.env) = eval o X.env := by rfl) (hline : (apos.endLine == pos.line) = true := by rfl) :
    PE X (.Call (.Attribute o "join" apos) [e] [] pos) (tM1 (rJoin K) to te) := by
  subst h
  exact pe_join ho he hs hbase hline
end
end My
namespace My
open PyProof.Rows PySem.Spec PySem L2
section
variable {X : Cx} {K : PySem.W.Frag}
/-! ### xs[i], xs a list or a tuple -/
def rIxB (K : PySem.W.Frag) : R2 := fun x y H Q => rIxL K x y H Q ∨ rIxT K x y H Q
theorem ix_bothK (h : X.K = K) : IxR X (rIxB K) := by
  subst h
  intro value slice pins s σ H x y v u Q I rx ry hw hs
  rcases hw with hw | hw
  · exact ix_list value slice pins s σ H x y v u Q I rx ry hw hs
  · exact ix_tup value slice pins s σ H x y v u Q I rx ry hw hs
end
end My
namespace My
open PyProof.Rows PySem.Spec PySem L2
/-! ### f(a=..): the only argument by name -/
def kwG1 {α : Type} (us ws : List α) : List α := match us, ws with
  | [], [x] => [x]
  | _, _ => []
structure CalK1 (P : Program) (w : World) (K : PySem.W.Frag) (mg : Str → Option Value) (base : Heap) (k : Nat) (x : Str) (sp : Sp) (p1 : Str) : Prop where
  ex : ∃ (f : Addr) (fd : FuncData), FnOk P w K mg base C8.CX0 k f fd [p1] sp ∧ mg x = some (.ref f) ∧ PySem.W.keepIn K (.ref f) = true ∧ KBinds K fd [p1] [p1] kwG1 kwG1
theorem kw1_of {K : PySem.W.Frag} {x qual : Str} {params : Arguments} {body : List Stmt} {scope : Scope} {kws : List (Str × V)} {f : Addr} {fd : FuncData} {p1 : Str} (F : FunD K x qual params body scope [] kws f fd)
    (h : ∀ (kV doc pm : Value) (an : Option Addr) (cdv ct : Value) (u : Value), bindArgs (PySem.W.fnOf x qual params body scope .none kV doc pm an cdv ct) ⟨[], [(p1, u)]⟩ = pure [(p1, u)]) : KBinds K fd [p1] [p1] kwG1 kwG1 := by
  obtain ⟨oc, od, dV, kV, doc, pm, an, cdv, ct, osl, efd, lk, hcd, hdv, hK⟩ := F.ex
  subst efd
  rcases hdv with ⟨_, edv⟩ | ⟨e, _⟩
  · subst edv
    refine ⟨fun s us ws _ len => ?_, fun {vs us zs ws} r1 r2 => ?_⟩
    · match us, ws, len with
      | [], [u], _ => exact .of_eq (h kV doc pm an cdv ct u)
    · match vs, us, zs, ws, r1, r2 with
      | [], _, [], _, .nil, .nil => exact .nil
      | [], _, [_], _, .nil, .cons a .nil => exact .cons a .nil
      | [], _, _ :: _ :: _, _, .nil, .cons _ (.cons _ _) => exact .nil
      | _ :: _, _, _, _, .cons _ _, _ => exact .nil
  · exact absurd rfl e
theorem pe_kw1 {X : Cx} {k j : Nat} {x p1 : Str} {sp : Sp} {p pos : Pos} {kws : List Keyword} {tk : TA} (c : CalK1 X.prog X.w X.K X.mg X.base k x sp p1) (hr : Room j X.A) (hk : k ≤ j) (hg : Gl X x) (hkw : PK X kws tk)
    (hall : (backToKw pos (keywordEach kws X.env)).all (·.1.isSome) = true := by rfl) (hks : (backToKw pos (keywordEach kws X.env)).filterMap (·.1) = [p1] := by rfl) (hdb : (x == ("__debug__" : Str)) = false := by decide)
    (hpl : ((backTo pos (starEach [] X.env)).any (·.1) || (backToKw pos (keywordEach kws X.env)).any (·.1.isNone)) = false := by rfl) : PE X (.Call (.Name x p) [] kws pos) (tCallK sp kwG1 C8.E0 tNil tk) := by
  obtain ⟨f, fd, F, hm, kp, hb⟩ := c.ex
  refine ⟨fun pins s σ H Q inv hyp => ?_⟩
  refine wpAny_Call_Name_kw (ld_glob inv hg hm ?_ hdb)
  refine PySem.W.callWith_KW0 (h₀ := X.base) inv.ok.mod.kin kp hall (thn (hkw.run pos pins s σ H _ inv hyp) fun ws s2 ⟨zs, H2, inv2, rz, q2⟩ => ⟨inv2.kIn, ?_⟩) hpl
  rw [hks]
  exact run_fnk (us := []) F (hr.mono hk) hb C8.pass0 inv2 .nil rz q2
end My
namespace My
open PyProof.Rows PySem.Spec PySem L2
/-! ### for i, x in enumerate(t, start=k), t a tuple -/
/-- the tuple at a, each item in a new pair, counted from k on -/
def IteT (K : PySem.W.Frag) (a : Addr) (k : Int) : It :=
  ⟨fun i H => ∃ (xs : List V) (x : V), SqT K H a xs ∧ xs[i]? = some x,
   fun i H v H' => ∃ T x, v = .ref T ∧ H T = Option.none ∧ H' = upd H T (.tup [.int (k + ((i : Nat) : Int)), x]) ∧ ∀ xs, SqT K H a xs → xs[i]? = some x,
   fun i H => ∃ xs : List V, SqT K H a xs ∧ xs.length ≤ i⟩
theorem enumT_end {prog : Program} {w : World} {A : Around} {E : Value → Shared → Prop} {s : Shared} {e it a : Addr} {c : Int} {i : Nat} {items : Array Value} {old : Value} {Q : Option Value → Shared → Prop} (calm : A.handled = Option.none) (isE : IsEnum s.heap e it c old)
    (isI : s.heap.IsTupleIter it a i) (tupIs : s.heap.IsTuple a items) (over : items[i]? = Option.none) (go : ∀ h', Heap.ExtBut it s.heap h' → Q Option.none { s with heap := h' }) : wpAny (model prog w) A (pyNext (.ref e)) Q E s := by
  have typ : s.TypeIs (.ref e) "enumerate" := ⟨_, isE, rfl⟩
  unfold pyNext
  refine wpAny_bind (wpAny_attempt (wpAny_callSpecial?_slot (name := Str.ofString "__next__") typ F.slot_enumerate_next (wpAny_call_entry F.slot_enumerate_next typ F.entry_enumerate_next ?_ (F.args_enumerate_next_1 _))))
  show wpAny _ _ (field (Value.ref e) 2 >>= _) _ _ _
  refine wpAny_bind (wpAny_field isE rfl (x := .ref it) rfl (wpAny_bind (wpAny_nextOf_tuple_end calm isI tupIs over fun h' x ext raised => ?_)))
  obtain ⟨ob, at0, cls0⟩ := raised
  exact wpAny_bind (wpAny_isInstance (T := "StopIteration") (b := true) ⟨ob, at0, cls0⟩ isSubtype_stop (wpAny_pure (go _ ext)))
theorem turn_enumT {P : Program} {w : World} {K : PySem.W.Frag} {elts : List Expr} {kk : Nat} {tpos : Pos} (a e it : Addr) (k : Int) :
    Turn P w K (.Tuple elts kk tpos) (IteT K a k) [e, it] e (fun i h => (∃ old, IsEnum h e it (k + ((i : Nat) : Int)) old) ∧ h.IsTupleIter it a i ∧ e ≠ it ∧ a ≠ it ∧ e ≠ a) where
  mem := List.mem_cons_self ..
  obj := fun i h st b hb => by
    obtain ⟨⟨old, isE⟩, ⟨ob, atI, clsI, datI⟩, _⟩ := st
    rcases (by simpa using hb : b = e ∨ b = it) with z | z
    · subst z; exact ⟨_, isE, fun v bad => nomatch bad⟩
    · subst z; exact ⟨ob, atI, fun v bad => by rw [datI] at bad; cases bad⟩
  keep := fun i h h' st kp => let ⟨⟨old, isE⟩, isI, ne⟩ := st; ⟨⟨old, kp e (by simp) _ isE⟩, isI.at fun ob at0 => kp it (by simp) ob at0, ne⟩
  item := by
    intro X eP eW eK calm i pins s σ H E inv fpo st going
    subst eP eW eK
    obtain ⟨⟨old, isE⟩, isI, nei, nai, nea⟩ := st
    obtain ⟨xs, x, seq, at1⟩ := going
    obtain ⟨its, rv, tupIs, small⟩ := inv.tuple seq
    obtain ⟨u, atU, relU⟩ := rv.get at1
    have eLt : e < s.heap.objs.size := Heap.lt_size isE
    have iLt : it < s.heap.objs.size := by obtain ⟨_, at0, _⟩ := isI; exact Heap.lt_size at0
    have tupIs2 : s.heap.IsTuple a its.toArray := tupIs
    have lt1 : i < its.toArray.size := by
      have := (List.getElem?_eq_some_iff.mp atU).1
      simpa using this
    refine wpAny_pyNext_enum_itemC (Draws.tuple (A := X.A.in1) (show X.A.in1.handled = Option.none from inv.ok.hd calm) it a nai its.toArray) isE ⟨isI, tupIs2⟩ lt1 nei (by simp; exact ⟨nei, nea⟩) fun x1 h' tk drew out' st' atT size' rest => ?_
    have ex : x1 = u := by
      have e1 : its.toArray[i]? = some x1 := drew
      rw [List.getElem?_toArray, atU] at e1
      exact (Option.some.inj e1).symm
    subst ex
    refine ⟨_, rfl, wpAny_letOwnedTupleGo_enum (s := { s with heap := h', toks := tk + 1 }) out' fun h2 isE2 same2 => ?_⟩
    have atT2 : h2.get? s.heap.objs.size = some { cls := .type "tuple", data := .seq #[.int (k + ((i : Nat) : Int)) tk, x1] } := (same2.2 _ (Nat.ne_of_gt eLt)).trans atT
    have fresh1 : ObjOk X.prog X.w (upd H s.heap.objs.size (.tup [.int (k + ((i : Nat) : Int)), x])) h2 s.heap.objs.size (.tup [.int (k + ((i : Nat) : Int)), x]) :=
      ⟨by show 2 ≤ sizeLine; decide, [.int (k + ((i : Nat) : Int)) tk, x1], .cons ⟨_, rfl⟩ (.cons relU .nil), ⟨_, atT2, rfl, _, rfl⟩⟩
    have inv1 : Inv X pins σ (upd H s.heap.objs.size (.tup [.int (k + ((i : Nat) : Int)), x])) { s with heap := h2, toks := tk + 1 } :=
      inv.turnedNew (ch := [e, it]) (fun b ob nb at0 => (same2.2 b (fun z => nb (by simp [z]))).trans (rest b ob (fun z => nb (by simp [z])) (fun z => nb (by simp [z])) at0)) fpo (Nat.le_refl _) fresh1
    refine ⟨.ref s.heap.objs.size, _, inv1, rfl, ⟨_, x, rfl, inv.hok.fresh (Nat.le_refl _), rfl, fun ys sq => by rw [inv.tuple_inj sq seq]; exact at1⟩, ⟨⟨x1, ?_⟩, st'.1.at fun ob at0 => (same2.2 it (Ne.symm nei)).trans at0, nei, nai, nea⟩, fun b hb => ?_⟩
    · have e1 : k + (((i + 1 : Nat)) : Int) = k + (i : Int) + 1 := by omega
      rw [e1]
      exact isE2
    · have lt2 : b < s.heap.objs.size := by
        rcases (by simpa using hb : b = e ∨ b = it) with z | z
        · subst z; exact eLt
        · subst z; exact iLt
      rw [upd_ne (Nat.ne_of_lt lt2)]
      exact (fpo b hb).1
  done := by
    intro X eP eW eK calm i pins s σ H E inv fpo st stops
    subst eP eW eK
    obtain ⟨⟨old, isE⟩, isI, nei, nai, nea⟩ := st
    obtain ⟨xs, seq, over⟩ := stops
    obtain ⟨its, rv, tupIs, small⟩ := inv.tuple seq
    have len := rv.length
    refine enumT_end (inv.ok.hd calm) isE isI (show s.heap.IsTuple a its.toArray from tupIs) (by simp; omega) fun h' same => ⟨rfl, ?_⟩
    obtain ⟨f0, f1, f2, f3, f4, f5⟩ := fpo it (by simp)
    exact inv.turned (t' := s.toks) (fun b ob nb at0 => same b ob nb at0) f0 f1 f3 f4 f5
  self := fun A i s Q E st hyp => let ⟨⟨_, isE⟩, _⟩ := st; wpAny_pyIter_enum isE hyp
/-- a call of a built-in class, the last arguments by name -/
theorem callTyKw {M : Model} {A : Around} {E : Value → Shared → Prop} {s : Shared} {env : Env} {pos : Pos} {T : String} {e : Expr} {rest : List Expr} {kws : List Keyword} {Q : Value → Shared → Prop}
    (hyp : wpAny M A (spliced (backTo pos (starEach (e :: rest) env))) (fun vs s1 => wpAny M A (evalAll ((backToKw pos (keywordEach kws env)).map (·.2))) (fun us s2 => wpAny M A (call (.type T) vs (((backToKw pos (keywordEach kws env)).filterMap (·.1)).zip us)) Q E s2) E s1) E s)
    (first : backTo pos (starEach (e :: rest) env) = (false, eval e env) :: backTo pos (starEach rest env)) (plain : (backTo pos (starEach (e :: rest) env)).any (·.1) = false)
    (named : (backToKw pos (keywordEach kws env)).all (·.1.isSome) = true) (noStars : (backToKw pos (keywordEach kws env)).any (·.1.isNone) = false) :
    wpAny M A (callWith pos (.type T) [] (backTo pos (starEach (e :: rest) env)) (backToKw pos (keywordEach kws env))) Q E s := by
  have args : wpAny M A (evalArgs (.type T) true (backTo pos (starEach (e :: rest) env)) (backToKw pos (keywordEach kws env))) (fun a s1 => wpAny M A (call (.type T) ([] ++ a.pos) a.kw) Q E s1) E s := by
    rw [first] at hyp ⊢
    exact evalArgs_kwB named hyp
  unfold callWith
  refine wpAny_bind (wpAny_holding (wpAny_mono args (fun a s1 h1 => wpAny_bind (wpAny_standAt ?_)) fun _ _ bad => bad))
  simp only [plain, noStars, Bool.or_false]
  exact wpAny_bind (wpAny_pure (wpAny_bind (wpAny_mono h1 (fun r s2 h2 => wpAny_bind (wpAny_holding (wpAny_point (wpAny_pure h2)))) fun _ _ bad => bad)))
/-- enumerate(t, start=k) -/
def iEnumT (K : PySem.W.Frag) (ta tk : TA) : TI := fun σ H R => ta σ H fun vs H1 => tk σ H1 fun zs H2 => ∃ a xs k, vs = [.ref a] ∧ zs = [.int k] ∧ -(2 ^ 63) ≤ k ∧ k < 2 ^ 63 ∧ SqT K H2 a xs ∧ R (IteT K a k) H2
theorem pi_enumT {X : Cx} {K : PySem.W.Frag} {e : Expr} {ta tk : TA} {p pos tpos : Pos} {elts : List Expr} {kk : Nat} {kws : List Keyword} (h : X.K = K) (hg : Gl X "enumerate") (hm : X.mg "enumerate" = Option.none) (ha : PA X [e] ta) (hk : PK X kws tk)
    (he : backTo pos (starEach [e] X.env) = (false, eval e X.env) :: backTo pos (starEach [] X.env) := by rfl) (hpl : (backTo pos (starEach [e] X.env)).any (·.1) = false := by rfl)
    (hall : (backToKw pos (keywordEach kws X.env)).all (·.1.isSome) = true := by rfl) (hnone : (backToKw pos (keywordEach kws X.env)).any (·.1.isNone) = false := by rfl) (hks : (backToKw pos (keywordEach kws X.env)).filterMap (·.1) = [Str.ofString "start"] := by rfl) :
    PI X (.Tuple elts kk tpos) (.Call (.Name "enumerate" p) [e] kws pos) (iEnumT K ta tk) := by
  subst h
  refine ⟨fun pins s σ H R inv hyp => ?_⟩
  refine wpAny_Call_Name_kw (ld_blt inv hg hm boot_enumerate ?_)
  refine callTyKw (thn (ha.run pos pins s σ H _ inv hyp) fun us s1 ⟨vs, H1, inv1, r1, q1⟩ => thn (hk.run pos pins s1 σ H1 _ inv1 q1) fun ws s2 ⟨zs, H2, inv2, r2, q2⟩ => ?_) he hpl hall hnone
  rw [hks]
  obtain ⟨a, xs, k, ev, ez, k0, k1, seq, go⟩ := q2
  subst ev ez
  cases r1 with
  | cons ra rr =>
    cases rr
    cases ra
    cases r2 with
    | cons rk rr =>
      cases rr
      obtain ⟨tk1, ek⟩ := rk
      subst ek
      obtain ⟨its, rv, tupIs, small⟩ := inv2.tuple seq
      have tup2 : s2.heap.IsTuple a its.toArray := tupIs
      have aLt : a < s2.heap.objs.size := by obtain ⟨_, at0, _⟩ := tup2; exact Heap.lt_size at0
      refine enum_begins_start (begins_tuple a its.toArray) tup2 k0 k1 fun h' isE atI size' rest => wpAny_pyIter_enum isE ?_
      have inv3 : Inv X pins σ H2 { s2 with heap := h' } := inv2.kept (t' := s2.toks) rest
      refine ⟨s2.heap.objs.size + 1, [s2.heap.objs.size + 1, s2.heap.objs.size], _, _, H2, rfl, inv3, turn_enumT a (s2.heap.objs.size + 1) s2.heap.objs.size k, ⟨⟨.none, ?_⟩, ⟨_, atI, rfl, rfl⟩, Nat.succ_ne_self _, Nat.ne_of_lt aLt, Nat.ne_of_gt (Nat.lt_succ_of_lt aLt)⟩, fun b hb => ?_, go⟩
      · have e0 : k + ((0 : Nat) : Int) = k := by omega
        rw [e0]
        exact isE
      · have le1 : s2.heap.objs.size ≤ b := by
          rcases (by simpa using hb : b = s2.heap.objs.size + 1 ∨ b = s2.heap.objs.size) with z | z
          · rw [z]; exact Nat.le_add_right _ 1
          · rw [z]; exact Nat.le_refl _
        exact inv2.fpOk le1 (inv2.hok.fresh le1)
theorem walk_enumT {K : PySem.W.Frag} {a : Addr} {xs : List V} {k : Int} : Walk (IteT K a k) xs.length (fun H => SqT K H a xs) (YPair (fun i => some (.int (k + ((i : Nat) : Int)))) (fun i => xs[i]?)) := by
  refine ⟨fun i _ lt seq => ⟨xs, xs[i], seq, by simp [lt]⟩, fun _ seq => ⟨xs, seq, Nat.le_refl _⟩, fun i H v H' _ seq drew => ?_⟩
  obtain ⟨T, x, e1, e2, e3, at1⟩ := drew
  exact ⟨T, .int (k + ((i : Nat) : Int)), x, e1, e2, e3, rfl, at1 xs seq⟩
theorem len_anyK {X : Cx} {K : PySem.W.Frag} (h : X.K = K) : CallR X (.builtin "len") (fun xs H Q => ∃ x n, xs = [x] ∧ LenV K x H n ∧ Q (.int n) H) := by
  subst h
  exact call_len
/-! ### what isinstance asks of an instance; == by an own __eq__ -/
def insB (K : PySem.W.Frag) (C : Addr) : Bool := He.eqO (PySem.W.findIn K (.ref C) "__class__") (some (some (.builtin "object.__class__"))) && (He.eqO (PySem.W.specialIn K (.builtin "object.__class__") "__get__") (some (some (.builtin "getset_descriptor.__get__"))) &&
  (decide (PySem.W.takesIn K (.builtin "object.__class__") = some true) && decide (PySem.W.mroIn K C (.type "object") = some true)))
theorem insB_ty {K : PySem.W.Frag} {C : Addr} (ok : insB K C = true) (cl : Cls K C) {H : Hp} {a dx : Addr} {fs : List (Str × V)} (e : H a = some (.ins C dx fs)) : TyX K H (.ref a) (.ref C) := by
  obtain ⟨c1, ok⟩ := He.ba ok
  obtain ⟨c2, ok⟩ := He.ba ok
  obtain ⟨c3, c4⟩ := He.ba ok
  exact .base (.ins e cl (He.eqO_ok c1) (He.eqO_ok c2) (of_decide_eq_true c3) (of_decide_eq_true c4))
theorem kit_own {K : PySem.W.Frag} {C : Addr} : PySem.W.kitOne K (.ref C) (.ref C) = some true := by
  unfold PySem.W.kitOne
  exact if_pos (by simp)
theorem op_eqIns {X : Cx} {k j : Nat} {C : Addr} {R : Addr → Addr → Hp → Prop} (c : C8.Met X.prog X.w X.K X.mg X.base k C "__eq__" (spEq R) []) (room : Room j X.A) (hk : k ≤ j) : OpR X (compareOp .Eq) (rEqG (DIns C R)) := by
  obtain ⟨f, fd, ps, ds, cl, me, F, b, d⟩ := c.ex
  cases d
  exact op_eqG (rcG_ins (E := C8.E0) F me.at_ me.fn b C8.pass0) (room.mono hk)
theorem list_indexK {X : Cx} {K : PySem.W.Frag} (h : X.K = K) : MtR X "list.index" (rIndex K) := by subst h; exact mt_index
/-! ### dicts of the top: the Hook, and what their items are -/
abbrev AlK : Type := He.AlD × Bool × List (Option (List (Option (Str × Int))))
def tabsOf (ts : List He.Tab) (K : PySem.W.Frag) : List (Option (List (Option (Str × Int)))) := ts.map fun t => He.dicW K (t.1 K)
def tabsDue (ts : List He.Tab) (w : World) : List (Option (List (Option (Str × Int)))) := ts.map fun t => some (He.keysIn w.params t.2)
def obsDG3 (n : Nat) (fa : List He.Fa) (fn : List He.DefD) (ex : PySem.W.Frag → Bool) (ts : List He.Tab) (g : Addr → Option Obj) : AlK := (fun K => (He.obsD fa fn K, ex K, tabsOf ts K)) (He.frG g (He.asD g n))
def hookD3 (n : Nat) (fa : List He.Fa) (fn : List He.DefD) (ex : PySem.W.Frag → Bool) (ts : List He.Tab) : PySem.W.Hook where
  α := AlK
  obs := fun s => obsDG3 n fa fn ex ts s.heap.get?
  val := fun w => (He.valD fn, true, tabsDue ts w)
  says := fun w h => ∃ K : PySem.W.Frag, K.In h ∧ (He.SaysD fa fn K ∧ ex K = true) ∧ tabsOf ts K = tabsDue ts w
  of := fun _ _ e => ⟨_, He.frG_in, ⟨congrArg (fun z : AlK => z.1) e, congrArg (fun z : AlK => z.2.1) e⟩, congrArg (fun z : AlK => z.2.2) e⟩
  keeps := fun _ _ _ ⟨F, inF, both⟩ more => ⟨F, PySem.W.Frag.In.keeps inF more, both⟩
theorem obsDG3_eq {n : Nat} {fa : List He.Fa} {fn : List He.DefD} {ex : PySem.W.Frag → Bool} {ts : List He.Tab} {g : Addr → Option Obj} {s : Shared} (h : ∀ a, g a = s.heap.get? a) : obsDG3 n fa fn ex ts g = (hookD3 n fa fn ex ts).obs s := by
  have look : g = s.heap.get? := funext fun a => h a
  rw [look]
  rfl
theorem tab_ix {ts : List He.Tab} {K : PySem.W.Frag} {w : World} (h : tabsOf ts K = tabsDue ts w) (i : Nat) {t : He.Tab} (e : ts[i]? = some t) : ∃ es n, KDict K w (t.1 K) es n := by
  have e2 : (tabsOf ts K)[i]? = (tabsDue ts w)[i]? := by rw [h]
  unfold tabsOf tabsDue at e2
  rw [List.getElem?_map, List.getElem?_map, e] at e2
  exact He.dicW_ok (Option.some.inj e2)
def rInKD (K : PySem.W.Frag) (d : Addr) : R2 := fun x y H Q => ∃ (z : Str) (r : Option Value), x = .str z ∧ y = .ref d ∧ PySem.W.nsIn K d z = some r ∧ Q (.bl r.isSome) H
theorem op_inKD {X : Cx} {K : PySem.W.Frag} {w : World} {d : Addr} (h : X.K = K) (hw : X.w = w) (D : ∃ es n, KDict K w d es n) : OpR X (compareOp .In) (rInKD K d) := by
  subst h hw
  obtain ⟨es, n, D⟩ := D
  exact op_in_kd D
theorem ix_kdictK {X : Cx} {K : PySem.W.Frag} {w : World} (h : X.K = K) (hw : X.w = w) : IxR X (rIxD K w) := by
  subst h hw
  exact ix_kdict
theorem kdct_of {K : PySem.W.Frag} {w : World} {d : Addr} {z : Str} {u : Value} {v : V} (D : ∃ es n, KDict K w d es n) (e : PySem.W.nsIn K d z = some (some u)) (q : RelV v u) : KDct K w d z v := by
  obtain ⟨es, n, D⟩ := D
  exact ⟨es, n, u, D.at_, D.lit, e, q⟩
/-! ### f(a=.., b=..): both arguments by name, as they stand -/
def kwI {α : Type} (us ws : List α) : List α := match us, ws with
  | [], [x, y] => [x, y]
  | _, _ => []
structure CalKI (P : Program) (w : World) (K : PySem.W.Frag) (mg : Str → Option Value) (base : Heap) (k : Nat) (x : Str) (sp : Sp) (p1 p2 : Str) : Prop where
  ex : ∃ (f : Addr) (fd : FuncData), FnOk P w K mg base C8.CX0 k f fd [p1, p2] sp ∧ mg x = some (.ref f) ∧ PySem.W.keepIn K (.ref f) = true ∧ KBinds K fd [p1, p2] [p1, p2] kwI kwI
theorem kwi_of {K : PySem.W.Frag} {x qual : Str} {params : Arguments} {body : List Stmt} {scope : Scope} {kws : List (Str × V)} {f : Addr} {fd : FuncData} {p1 p2 : Str} (F : FunD K x qual params body scope [] kws f fd)
    (turn : ∀ (kV doc pm : Value) (an : Option Addr) (cdv ct : Value) (u v : Value), bindArgs (PySem.W.fnOf x qual params body scope .none kV doc pm an cdv ct) ⟨[], [(p1, u), (p2, v)]⟩ = pure [(p1, u), (p2, v)]) : KBinds K fd [p1, p2] [p1, p2] kwI kwI := by
  obtain ⟨oc, od, dV, kV, doc, pm, an, cdv, ct, osl, isF, lk, hcd, dflt, hK⟩ := F.ex
  subst isF
  rcases dflt with ⟨_, no⟩ | ⟨e, _⟩
  · subst no
    refine ⟨fun s us ws X hl => ?_, fun {vs us zs ws} r1 r2 => ?_⟩
    · match us, ws, hl with
      | [], [u, v], _ => exact .of_eq (turn kV doc pm an cdv ct u v)
    · cases r1 with
      | cons a r1 => exact .nil
      | nil =>
        match zs, ws, r2 with
        | [], [], .nil => exact .nil
        | [_], [_], .cons a .nil => exact .nil
        | [_, _], [_, _], .cons a (.cons b .nil) => exact .cons a (.cons b .nil)
        | _ :: _ :: _ :: _, _ :: _ :: _ :: _, .cons _ (.cons _ (.cons _ _)) => exact .nil
  · exact absurd rfl e
theorem pe_kwi {X : Cx} {k j : Nat} {x p1 p2 : Str} {sp : Sp} {p pos : Pos} {kws : List Keyword} {tk : TA} (c : CalKI X.prog X.w X.K X.mg X.base k x sp p1 p2) (room : Room j X.A) (hk : k ≤ j) (hg : Gl X x) (hkw : PK X kws tk)
    (hall : (backToKw pos (keywordEach kws X.env)).all (·.1.isSome) = true := by rfl) (hks : (backToKw pos (keywordEach kws X.env)).filterMap (·.1) = [p1, p2] := by rfl) (hdb : (x == ("__debug__" : Str)) = false := by decide)
    (hpl : ((backTo pos (starEach [] X.env)).any (·.1) || (backToKw pos (keywordEach kws X.env)).any (·.1.isNone)) = false := by rfl) : PE X (.Call (.Name x p) [] kws pos) (tCallK sp kwI C8.E0 tNil tk) := by
  obtain ⟨f, fd, F, hm, kp, binds⟩ := c.ex
  refine ⟨fun pins s σ H Q I todo => wpAny_Call_Name_kw (ld_glob I hg hm ?_ hdb)⟩
  refine PySem.W.callWith_KW0 (h₀ := X.base) I.ok.mod.kin kp hall (thn (hkw.run pos pins s σ H _ I todo) fun ws s2 ⟨zs, H2, I2, rz, q2⟩ => ⟨I2.kIn, ?_⟩) hpl
  rw [hks]
  exact run_fnk (us := []) F (room.mono hk) binds C8.pass0 I2 .nil rz q2
end My
namespace My
open PySem PySem.Spec PyProof.Rows L2
/-! ### x in o, len(o) by own methods -/
section
variable {X : Cx} {k j : Nat} {C : Addr} {sp : Sp}
def rInOwn (C : Addr) (sp : Sp) : R2 := fun x y H Q => ∃ a dx fs, y = .ref a ∧ H a = some (.ins C dx fs) ∧ sp [.ref a, x] H (fun v H' => ∃ b, v = .bl b ∧ Q (.bl b) H') (fun _ _ _ => False)
theorem op_inOwn (c : C8.Met X.prog X.w X.K X.mg X.base k C "__contains__" sp []) (room : Room j X.A) (hk : k ≤ j) : OpR X (compareOp .In) (rInOwn C sp) := by
  intro pins s σ H x y v u Q I rx ry hq
  obtain ⟨a, dx, fs, ey, ha, hsp⟩ := hq
  subst ey
  cases ry
  obtain ⟨f, fd, ps, ds, cl, me, F, b, d⟩ := c.ex
  cases d
  obtain ⟨mA, J, _⟩ := ins_get I.hok ha
  obtain ⟨od, J, _⟩ := J.look
  obtain ⟨m, hF⟩ := I.fr
  have hl := F.len _ _ _ _ hsp
  refine PySem.W.in_K hF I.ok.mod.kin J me.at_ me.fn ?_
  refine wpAny_call (codeAny_mono (F.run X.A X.stack s H ⟨[.ref a, v], []⟩ [.ref a, v] [.ref a, x] _ (fun _ _ _ => False) (room.mono hk) I.env0 (by
    have := b s [.ref a, v] I.kIn (by simpa using hl)
    simpa using this) (.cons rfl (.cons rx .nil)) hsp) fun r s' hr => ?_)
  cases r with
  | error e => exact C8.pass0 (E := fun _ _ _ => False) pins σ H s e s' I hr
  | ok fl =>
    cases fl with
    | ret w =>
      obtain ⟨z, H', I', rz, bb, ez, q⟩ := I.after hr
      subst ez
      cases rz
      exact wpAny_truthy_bool ⟨.bl bb, H', I', rfl, q⟩
    | next => exact False.elim hr
    | brk => exact False.elim hr
    | cont => exact False.elim hr
def rLenOwn (C : Addr) (sp : Sp) : List V → Hp → VK → Prop := fun ws H Q => ∃ a dx fs, ws = [.ref a] ∧ H a = some (.ins C dx fs) ∧ sp [.ref a] H (fun v H' => ∃ n : Int, v = .int n ∧ 0 ≤ n ∧ n < 2 ^ 62 ∧ Q (.int n) H') (fun _ _ _ => False)
theorem len_own (c : C8.Met X.prog X.w X.K X.mg X.base k C "__len__" sp []) (room : Room j X.A) (hk : k + 1 ≤ j) : CallR X (.builtin "len") (rLenOwn C sp) := by
  intro pins s σ H ws us Q I rx hq
  obtain ⟨a, dx, fs, ey, ha, hsp⟩ := hq
  subst ey
  obtain ⟨u, eu, ru⟩ := vals1 rx
  subst eu
  cases ru
  obtain ⟨f, fd, ps, ds, cl, me, F, b, d⟩ := c.ex
  cases d
  obtain ⟨mA, J, _⟩ := ins_get I.hok ha
  obtain ⟨od, J, _⟩ := J.look
  obtain ⟨m, hF⟩ := I.fr
  have hl := F.len _ _ _ _ hsp
  refine PySem.W.len_K hF I.ok.mod.kin J me.at_ me.fn ?_
  refine wpAny_call (codeAny_mono (F.run X.A.in1 X.stack s H ⟨[.ref a], []⟩ [.ref a] [.ref a] _ (fun _ _ _ => False) (room.mono hk).in1 I.env0.in1 (by
    have := b s [.ref a] I.kIn (by simpa using hl)
    simpa using this) (.cons rfl .nil) hsp) fun r s' hr => ?_)
  cases r with
  | error e => exact C8.pass0 (E := fun _ _ _ => False) pins σ H s e s' I hr
  | ok fl =>
    cases fl with
    | ret w =>
      obtain ⟨z, H', I', rz, n, ez, n0, n1, q⟩ := I.after hr
      subst ez
      obtain ⟨t, et⟩ := rz
      subst et
      exact ⟨⟨n0, by omega⟩, .int n, H', I'.tok _, ⟨_, rfl⟩, q⟩
    | next => exact False.elim hr
    | brk => exact False.elim hr
    | cont => exact False.elim hr
end
/-! ### properties: what the head says, the rule -/
def gAd (K : PySem.W.Frag) (p : Str × Str) : Addr := match PySem.W.findIn K (.ref (He.ga K p.1)) p.2 with
  | some (some (.ref a)) => (match PySem.W.recIn K a "property" with
    | some (.ref g :: _) => g
    | _ => 0)
  | _ => 0
def propB (K : PySem.W.Frag) (p : Str × Str) : Bool := match PySem.W.findIn K (.ref (He.ga K p.1)) p.2 with
  | some (some (.ref a)) => (match PySem.W.recIn K a "property" with
    | some (.ref g :: _) => He.eqO (PySem.W.specialIn K (.ref a) "__get__") (some (some (.builtin "property.__get__"))) && decide (PySem.W.takesIn K (.ref a) = some true)
    | _ => false)
  | _ => false
theorem propB_ok {K : PySem.W.Frag} {p : Str × Str} (h : propB K p = true) : ∃ a, PropOf K (He.ga K p.1) p.2 a (gAd K p) := by
  unfold propB at h
  unfold gAd
  split at h
  · rename_i a e1
    split at h
    · rename_i g rest e2
      obtain ⟨h1, h2⟩ := He.ba h
      exact ⟨a, e1, He.eqO_ok h1, of_decide_eq_true h2, rest, by rw [e2]⟩
    · cases h
  · cases h
def fnWA (K : PySem.W.Frag) (a : Addr) : He.FnW := match K.lookup a with
  | some ⟨_, _, .func fd, _⟩ => some (fd.name, fd.qualname, fd.params, fd.body, fd.scope, fd.globals, fd.closure, fd.builtins)
  | _ => none
/-- a getter: its class, its name; the def as in DefD (where it stands does not matter) -/
abbrev GetD : Type := (Str × Str) × He.DefD
def GetD.ok (K : PySem.W.Frag) (g : GetD) : Bool := propB K g.1 && (PySem.W.keepIn K (.ref (gAd K g.1)) && (match K.lookup (gAd K g.1) with
  | some ⟨_, _, .func fd, _⟩ => PySem.W.codeIn K fd.code g.2.qual && (He.dflB K fd.defaults (g.2.dvs K) && He.kwdB K fd.kwdefaults (g.2.kws K))
  | _ => false))
theorem GetD.funD {K : PySem.W.Frag} {g : GetD} (e : fnWA K (gAd K g.1) = g.2.val) (c : GetD.ok K g = true) : ∃ fd, FunD K g.2.name g.2.qual g.2.params g.2.body g.2.scope (g.2.dvs K) (g.2.kws K) (gAd K g.1) fd := by
  obtain ⟨_, c⟩ := He.ba c
  obtain ⟨kp, c2⟩ := He.ba c
  unfold fnWA at e
  cases q : K.lookup (gAd K g.1) with
  | none =>
    rw [q] at c2
    cases c2
  | some o =>
    obtain ⟨oc, od, dt, osl⟩ := o
    rw [q] at c2 e
    cases dt with
    | func fd =>
      obtain ⟨n1, n2, n3, n4, n5, n6, n7, n8, n9, n10, n11, n12, n13, n14, n15⟩ := fd
      have e2 : (some (n1, n2, n3, n4, n5, n6, n7, n15) : He.FnW) = some (g.2.name, g.2.qual, g.2.params, .stmts g.2.body, g.2.scope, mainGlobals, [], builtinsNs) := e
      simp only [Option.some.injEq, Prod.mk.injEq] at e2
      obtain ⟨h1, h2, h3, h4, h5, h6, h7, h8⟩ := e2
      subst h1 h2 h3 h4 h5 h6 h7 h8
      have c3 : (PySem.W.codeIn K n13 g.2.qual && (He.dflB K n8 (g.2.dvs K) && He.kwdB K n9 (g.2.kws K))) = true := c2
      obtain ⟨k1, k2⟩ := He.ba c3
      obtain ⟨k3, k4⟩ := He.ba k2
      exact ⟨_, ⟨oc, od, n8, n9, n10, n11, n12, n13, n14, osl, rfl, q, k1, He.dflB_ok k3, He.kwdB_ok k4⟩, kp⟩
    | _ => cases c2
/-- the Hook: facts, defs, one more Bool, dicts of the top, getters -/
abbrev AlG : Type := He.AlD × Bool × List (Option (List (Option (Str × Int)))) × List He.FnW
def getsOf (gs : List GetD) (K : PySem.W.Frag) : List He.FnW := gs.map fun g => fnWA K (gAd K g.1)
def getsDue (gs : List GetD) : List He.FnW := gs.map fun g => g.2.val
def getsB (gs : List GetD) (K : PySem.W.Frag) : Bool := gs.all fun g => GetD.ok K g
def obsDG4 (n : Nat) (fa : List He.Fa) (fn : List He.DefD) (ex : PySem.W.Frag → Bool) (ts : List He.Tab) (gs : List GetD) (g : Addr → Option Obj) : AlG := (fun K => (He.obsD fa fn K, ex K && getsB gs K, tabsOf ts K, getsOf gs K)) (He.frG g (He.asD g n))
def hookD4 (n : Nat) (fa : List He.Fa) (fn : List He.DefD) (ex : PySem.W.Frag → Bool) (ts : List He.Tab) (gs : List GetD) : PySem.W.Hook where
  α := AlG
  obs := fun s => obsDG4 n fa fn ex ts gs s.heap.get?
  val := fun w => (He.valD fn, true, tabsDue ts w, getsDue gs)
  says := fun w h => ∃ K : PySem.W.Frag, K.In h ∧ (He.SaysD fa fn K ∧ ex K = true) ∧ (tabsOf ts K = tabsDue ts w ∧ getsB gs K = true ∧ getsOf gs K = getsDue gs)
  of := fun _ _ e => by
    have h1 := He.ba (congrArg (fun z : AlG => z.2.1) e)
    exact ⟨_, He.frG_in, ⟨congrArg (fun z : AlG => z.1) e, h1.1⟩, congrArg (fun z : AlG => z.2.2.1) e, h1.2, congrArg (fun z : AlG => z.2.2.2) e⟩
  keeps := fun _ _ _ ⟨F, inF, both⟩ more => ⟨F, PySem.W.Frag.In.keeps inF more, both⟩
theorem obsDG4_eq {n : Nat} {fa : List He.Fa} {fn : List He.DefD} {ex : PySem.W.Frag → Bool} {ts : List He.Tab} {gs : List GetD} {g : Addr → Option Obj} {s : Shared} (h : ∀ a, g a = s.heap.get? a) : obsDG4 n fa fn ex ts gs g = (hookD4 n fa fn ex ts gs).obs s := by
  have look : g = s.heap.get? := funext fun a => h a
  rw [look]
  rfl
theorem get_ix {gs : List GetD} {K : PySem.W.Frag} (b : getsB gs K = true) (h : getsOf gs K = getsDue gs) (i : Nat) {g : GetD} (e : gs[i]? = some g) :
    (∃ a, PropOf K (He.ga K g.1.1) g.1.2 a (gAd K g.1)) ∧ ∃ fd, FunD K g.2.name g.2.qual g.2.params g.2.body g.2.scope (g.2.dvs K) (g.2.kws K) (gAd K g.1) fd := by
  have c := List.all_eq_true.mp b g (List.mem_of_getElem? e)
  have e2 : (getsOf gs K)[i]? = (getsDue gs)[i]? := by rw [h]
  unfold getsOf getsDue at e2
  rw [List.getElem?_map, List.getElem?_map, e] at e2
  exact ⟨propB_ok (He.ba c).1, GetD.funD (Option.some.inj e2) c⟩
/-- a property: its getter's promise -/
structure Prp (P : Program) (w : World) (K : PySem.W.Frag) (mg : Str → Option Value) (base : Heap) (k : Nat) (C : Addr) (f : Str) (sp : Sp) : Prop where
  ex : ∃ (p g : Addr) (fd : FuncData) (ps : List Str), Cls K C ∧ PropOf K C f p g ∧ FnOk P w K mg base C8.CX0 k g fd ps sp ∧ Binds K fd ps []
theorem pe_prp {X : Cx} {k j : Nat} {C : Addr} {f : Str} {sp : Sp} {e : Expr} {te : TE} {pos : Pos} (c : Prp X.prog X.w X.K X.mg X.base k C f sp) (room : Room j X.A) (hk : k + 1 ≤ j) (he : PE X e te)
    (hab : attributeBase e f X.env (eval e X.env) = eval e X.env := by rfl) : PE X (.Attribute e f pos) (tProp C sp [] C8.E0 te) := by
  obtain ⟨p, g, fd, ps, cl, pr, F, b⟩ := c.ex
  exact pe_prop he cl pr F (room.mono hk) b .nil C8.pass0 hab
end My
namespace My
open PyProof.Rows PySem.Spec PySem
/-! ### min of a list of tuples of ints: a comparison that leans on what stands -/
section
variable {prog : Program} {w : World} {A : Around} {R : Result → Shared → Prop} {it S : Addr} {fp wr : List Addr} {num : Nat} {P : Nat → Value → Prop} {St : Nat → Heap → Prop} {C : Heap → Prop} {bt : Nat → Nat → Bool}
def CmpAt (prog : Program) (w : World) (A : Around) (C : Heap → Prop) (P : Nat → Value → Prop) (bt : Nat → Nat → Bool) : Prop :=
  ∀ (i j : Nat) (x y : Value) (s : Shared) (Q : Value → Shared → Prop) (E : Value → Shared → Prop), C s.heap → P i x → P j y → Q (.bool (bt i j)) s → wpAny (model prog w) A (richCompare .Lt x y) Q E s
theorem min_turns (walk : Walks prog w A.in1 it fp wr num P St) (stands : ∀ i h, St i h → C h) (less : CmpAt prog w A.in1 C P bt) (out : S ∉ fp) (left : Nat) :
    ∀ (j : Nat) (s : Shared) (best : Value) (c : Nat), j + 1 + left = num → St (j + 1) s.heap → P (argBest bt j) best → s.heap.get? S = some { cls := .type "list", dict := none, data := .seq #[best, best] c, slots := #[] } →
    (∀ v h' tk, P (argBest bt (num - 1)) v → (∀ b o, b ≠ S → b ∉ wr → s.heap.get? b = some o → h'.get? b = some o) → R (.ok (.ret v)) { s with heap := h', toks := tk }) →
    codeAny (model prog w) A (.builtin "min.loop" ⟨[.ref it, .none, .ref S], []⟩) R s := by
  have apart : S ∉ wr := fun z => out (walk.sub _ z)
  have nm : (toString "min" ++ toString ".loop" : String) = "min.loop" := by decide
  induction left with
  | zero =>
    intro j s best c e st pb hS go
    obtain rfl : j + 1 = num := e
    refine codeAny_builtin F.entry_min_loop ?_
    rw [Around.under_plainId F.plain_min_loop _]
    refine wpAny_bind (m := seqItems? (.ref S)) (wpAny_seqItems hS rfl ?_)
    refine wpAny_bind (m := tryCatch (pyNext (.ref it)) _) (wpAny_tryCatch (walk.done s _ _ st fun h2 tk keep => ?_))
    have hS2 := keep S _ apart hS
    refine wpAny_bind (m := updateSeq S (fun _ => #[])) ?_
    refine wpAny_updateSeq hS2 rfl (wpAny_bind (wpAny_letGo (wpAny_pure ?_)))
    exact go best _ _ pb fun b o nb nw eb => (Heap.get?_update_other _ _ (fun z : S = b => nb z.symm)).trans (keep b o nw eb)
  | succ left rec =>
    intro j s best c e st pb hS go
    have lt : j + 1 < num := by omega
    refine codeAny_builtin F.entry_min_loop ?_
    rw [Around.under_plainId F.plain_min_loop _]
    refine wpAny_bind (m := seqItems? (.ref S)) (wpAny_seqItems hS rfl ?_)
    refine wpAny_bind (m := tryCatch (pyNext (.ref it)) _) (wpAny_tryCatch (walk.item (j + 1) s _ _ lt st fun v h2 tk pv st2 keep => ?_))
    have hS2 := keep S _ apart hS
    show wpAny _ A.in1 (tryCatch (holding [v, v] (richCompare .Lt v best >>= _)) _ >>= _) _ _ _
    refine wpAny_bind (wpAny_tryCatch (wpAny_holding (wpAny_bind (less (j + 1) (argBest bt j) v best _ _ _ (stands _ _ st2) pv pb ?_))))
    refine wpAny_bind (wpAny_holding (wpAny_truthy_bool ?_))
    refine wpAny_bind (wpAny_letGo (wpAny_pure ?_))
    cases eb : bt (j + 1) (argBest bt j) with
    | true =>
      simp only [if_true]
      refine wpAny_bind ?_
      refine wpAny_updateSeq hS2 rfl (wpAny_bind (wpAny_letGo ?_))
      rw [nm]
      refine wpAny_pure ⟨plainId_quiet F.plain_min_loop _, rec (j + 1) _ v _ (by omega) (walk.frame _ _ _ st2 fun b hb o ob => ?_) (by simp only [argBest, eb, if_true]; exact pv) (Heap.get?_update_self _ hS2 rfl) fun x h3 tk3 px keep3 => ?_⟩
      · exact (Heap.get?_update_other _ _ (fun z : S = b => out (z ▸ hb))).trans ob
      · exact go x h3 tk3 px fun b o nb nw ob => keep3 b o nb nw ((Heap.get?_update_other _ _ (fun z : S = b => nb z.symm)).trans (keep b o nw ob))
    | false =>
      simp only [Bool.false_eq_true, if_false]
      refine wpAny_bind (wpAny_letGo ?_)
      rw [nm]
      refine wpAny_pure ⟨plainId_quiet F.plain_min_loop _, rec (j + 1) _ best c (by omega) st2 (by simp only [argBest, eb, Bool.false_eq_true, if_false]; exact pb) hS2 fun x h3 tk3 px keep3 => ?_⟩
      exact go x h3 tk3 px fun b o nb nw ob => keep3 b o nb nw (keep b o nw ob)
theorem min_first (walk : Walks prog w A.in1 it fp wr num P St) (stands : ∀ i h, St i h → C h) (less : CmpAt prog w A.in1 C P bt) (out : S ∉ fp) (some1 : 0 < num) {s : Shared} {c : Nat} (st : St 0 s.heap) (hS : s.heap.get? S = some { cls := .type "list", dict := none, data := .seq #[] c, slots := #[] })
    (go : ∀ v h' tk, P (argBest bt (num - 1)) v → (∀ b o, b ≠ S → b ∉ wr → s.heap.get? b = some o → h'.get? b = some o) → R (.ok (.ret v)) { s with heap := h', toks := tk }) :
    codeAny (model prog w) A (.builtin "min.loop" ⟨[.ref it, .none, .ref S], []⟩) R s := by
  have apart : S ∉ wr := fun z => out (walk.sub _ z)
  have nm : (toString "min" ++ toString ".loop" : String) = "min.loop" := by decide
  refine codeAny_builtin F.entry_min_loop ?_
  rw [Around.under_plainId F.plain_min_loop _]
  refine wpAny_bind (m := seqItems? (.ref S)) (wpAny_seqItems hS rfl ?_)
  refine wpAny_bind (m := tryCatch (pyNext (.ref it)) _) (wpAny_tryCatch (walk.item 0 s _ _ some1 st fun v h2 tk pv st2 keep => ?_))
  have hS2 := keep S _ apart hS
  show wpAny _ A.in1 (updateSeq S (fun _ => #[v, v]) >>= _) _ _ _
  refine wpAny_bind ?_
  refine wpAny_updateSeq hS2 rfl ?_
  rw [nm]
  refine wpAny_pure ⟨plainId_quiet F.plain_min_loop _, min_turns walk stands less out (num - 1) 0 _ v _ (by omega) (walk.frame _ _ _ st2 fun b hb o ob => ?_) pv (Heap.get?_update_self _ hS2 rfl) fun x h3 tk3 px keep3 => ?_⟩
  · exact (Heap.get?_update_other _ _ (fun z : S = b => out (z ▸ hb))).trans ob
  · exact go x h3 tk3 px fun b o nb nw ob => keep3 b o nb nw ((Heap.get?_update_other _ _ (fun z : S = b => nb z.symm)).trans (keep b o nw ob))
end
section
variable {prog : Program} {w : World} {A : Around} {E : Value → Shared → Prop} {s : Shared}
/-- min of a list of references to tuples of ints that stand -/
theorem min_tups {l : Addr} {as : List Addr} {nss : Nat → List Int} {Q : Value → Shared → Prop} (calm : A.handled = none) (room : A.in1.units < cLine) (isL : s.heap.IsList l (as.map Value.ref).toArray) (full : 0 < as.length)
    (tups : ∀ i a, as[i]? = some a → ∃ its : Array Value, s.heap.IsTuple a its ∧ IntsAre its.toList (nss i))
    (go : ∀ h' tk a, as[argBest (fun i j => HT.lexLt (nss i) (nss j)) (as.length - 1)]? = some a → (∀ b o, s.heap.get? b = some o → h'.get? b = some o) → Q (.ref a) { s with heap := h', toks := tk }) :
    wpAny (model prog w) A (call (.builtin "min") [.ref l]) Q E s := by
  have nm : (toString "min" ++ toString ".loop" : String) = "min.loop" := by decide
  refine call_function_tree F.kind_min F.plain_min F.entry_min (F.args_min1 _) ?_
  refine wpAny_bind (m := Builtin.Builtins.bindParams "min" ["key", "default"] 0 ⟨[], []⟩) (wpAny_of_eq (a := [Option.none, Option.none]) (by rfl) ?_)
  refine wpAny_bind (wpAny_pure ?_)
  refine wpAny_bind (wpAny_pyIter_list isL ?_)
  have lLt : l < s.heap.objs.size := by obtain ⟨_, e, _⟩ := isL; exact Heap.lt_size e
  have walk0 := Walks.list (prog := prog) (w := w) (A := A.in1) (show A.in1.handled = none from calm) s.heap.objs.size l (Nat.ne_of_lt lLt) (as.map Value.ref).toArray
  let C : Heap → Prop := fun h => ∀ i a, as[i]? = some a → ∃ its : Array Value, h.IsTuple a its ∧ IntsAre its.toList (nss i)
  have live : ∀ a ∈ as, a < s.heap.objs.size := fun a ha => by
    obtain ⟨i, e⟩ := List.mem_iff_getElem?.mp ha
    obtain ⟨its, ⟨_, q, _⟩, _⟩ := tups i a e
    exact Heap.lt_size q
  have keepC : ∀ h h' : Heap, C h → (∀ a ∈ as, ∀ o, h.get? a = some o → h'.get? a = some o) → C h' := fun h h' c k i a e => by
    obtain ⟨its, q, r⟩ := c i a e
    exact ⟨its, q.at fun o eo => k a (List.mem_of_getElem? e) o eo, r⟩
  have walk : Walks prog w A.in1 s.heap.objs.size ([s.heap.objs.size, l] ++ as) [s.heap.objs.size] (as.map Value.ref).toArray.size (fun i v => (as.map Value.ref).toArray[i]? = some v) (fun i h => (h.IsListIter s.heap.objs.size l i ∧ h.IsList l (as.map Value.ref).toArray) ∧ C h) := {
    sub := fun b hb => List.mem_append_left _ (walk0.sub b hb)
    frame := fun i h h' st k => ⟨walk0.frame i h h' st.1 fun b hb => k b (List.mem_append_left _ hb), keepC h h' st.2 fun a ha => k a (List.mem_append_right _ ha)⟩
    item := fun i s1 Q1 E1 lt st hQ => walk0.item i s1 Q1 E1 lt st.1 fun v h' tk pv st2 k => hQ v h' tk pv ⟨st2, keepC _ _ st.2 fun a ha o eo => k a o (fun z => Nat.lt_irrefl _ (by have := live a ha; rw [List.mem_singleton.mp z] at this; exact this)) eo⟩ k
    done := fun s1 Q1 E1 st hQ => walk0.done s1 Q1 E1 st.1 hQ
    self := fun i s1 Q1 E1 st hQ => walk0.self i s1 Q1 E1 st.1 hQ }
  refine wpAny_bind (wpAny_newObj_type ?_)
  rw [nm]
  have size1 : (s.heap.push { cls := .type "list_iterator", data := .fields #[.ref l, .int 0 0] }).objs.size = s.heap.objs.size + 1 := Heap.size_push ..
  refine wpAny_pure ⟨plainId_quiet F.plain_min_loop _, min_first (A := A) (C := C) (s := { s with heap := (s.heap.push { cls := .type "list_iterator", data := .fields #[.ref l, .int 0 0] }).push { cls := .type "list", data := .seq #[] } }) (bt := fun i j => HT.lexLt (nss i) (nss j)) walk (fun i h st => st.2) (fun i j x y s1 Q1 E1 c px py q => ?_) (S := (s.heap.push { cls := .type "list_iterator", data := .fields #[.ref l, .int 0 0] }).objs.size) ?_ (by simpa using full) ?_ (Heap.get?_push_size _ rfl) fun v h' tk pv k => ?_⟩
  · have ex : ∃ a, as[i]? = some a ∧ x = .ref a := by
      have p2 : (as.map Value.ref).toArray[i]? = some x := px
      rw [List.getElem?_toArray, List.getElem?_map] at p2
      obtain ⟨a, e, r⟩ := Option.map_eq_some_iff.mp p2
      exact ⟨a, e, r.symm⟩
    have ey : ∃ a, as[j]? = some a ∧ y = .ref a := by
      have p2 : (as.map Value.ref).toArray[j]? = some y := py
      rw [List.getElem?_toArray, List.getElem?_map] at p2
      obtain ⟨a, e, r⟩ := Option.map_eq_some_iff.mp p2
      exact ⟨a, e, r.symm⟩
    obtain ⟨a, ea, rfl⟩ := ex
    obtain ⟨b, eb, rfl⟩ := ey
    obtain ⟨t1, p1, q1⟩ := c i a ea
    obtain ⟨t2, p2, q2⟩ := c j b eb
    exact HT.lt_tupInts p1 p2 q1 q2 room q
  · rw [size1]
    intro z
    rcases List.mem_append.mp z with z | z
    · simp only [List.mem_cons, List.not_mem_nil, or_false] at z
      rcases z with z | z
      · exact absurd z (Nat.succ_ne_self _)
      · rw [← z] at lLt
        exact absurd lLt (Nat.not_lt.mpr (Nat.le_succ _))
    · exact absurd (live _ z) (Nat.not_lt.mpr (Nat.le_succ _))
  · refine walk.frame 0 _ _ ⟨⟨⟨_, Heap.get?_push_size _ rfl, rfl, rfl⟩, isL.push _⟩, ?_⟩ fun b _ o e => Heap.get?_push_of_some _ e
    exact keepC s.heap _ tups fun a ha o e => Heap.get?_push_of_some _ e
  · have p2 : (as.map Value.ref).toArray[argBest (fun i j => HT.lexLt (nss i) (nss j)) ((as.map Value.ref).toArray.size - 1)]? = some v := pv
    rw [List.size_toArray, List.length_map, List.getElem?_toArray, List.getElem?_map] at p2
    obtain ⟨a, ea, rfl⟩ := Option.map_eq_some_iff.mp p2
    refine go h' tk a ea fun b o e => k b o ?_ ?_ (Heap.get?_push_of_some _ (Heap.get?_push_of_some _ e))
    · have lt := Heap.lt_size e
      rw [size1]
      exact Nat.ne_of_lt (Nat.lt_succ_of_lt lt)
    · have lt := Heap.lt_size e
      intro z
      rw [List.mem_singleton.mp z] at lt
      exact Nat.lt_irrefl _ lt
end
end My
namespace My
open PySem PySem.Spec PyProof.Rows L2
/-! ### the rule: min of a list of pairs -/
def rMinT (K : PySem.W.Frag) : List V → Hp → VK → Prop := fun vs H Q => ∃ (l : Addr) (as : List Addr) (nss : List (List Int)), vs = [.ref l] ∧ SqL K H l (as.map V.ref) ∧ Paired (fun a ns => SqT K H a (ns.map V.int)) as nss ∧ 0 < nss.length ∧
  ∀ a m, m < nss.length → as[m]? = some a → m = argBest (fun i j => HT.lexLt (nss.getD i []) (nss.getD j [])) (nss.length - 1) → Q (.ref a) H
theorem min_tupsK {X : Cx} {K : PySem.W.Frag} (e0 : X.K = K) (calm : X.calm = true) (hu : X.A.units + 64 < cLine) : CallR X (.builtin "min") (rMinT K) := by
  subst e0
  intro pins s σ H vs us Q I r h
  obtain ⟨l, as, nss, rfl, hl, ht, hne, q⟩ := h
  obtain ⟨its, rv, isL, fits⟩ := I.list hl
  rw [Vals.ref1 r]
  clear fits
  have eits : its = as.map Value.ref := by
    clear q ht hl isL
    induction as generalizing its with
    | nil => cases rv; rfl
    | cons a as ih =>
      cases rv with
      | cons r1 r2 =>
        cases r1
        exact congrArg _ (ih _ r2)
  subst eits
  have len : as.length = nss.length := ht.length
  refine min_tups (nss := fun i => nss.getD i []) (I.ok.hd calm) (by show X.A.units + 1 < cLine; omega) isL.isList (by omega) (fun i a ea => ?_) fun h' tk a ea keep => ?_
  · have hi : i < nss.length := by rw [← len]; exact (List.getElem?_eq_some_iff.mp ea).1
    obtain ⟨a2, ea2, hs⟩ : ∃ a2, as[i]? = some a2 ∧ SqT X.K H a2 ((nss.getD i []).map V.int) := by
      have key : ∀ {as : List Addr} {nss : List (List Int)} (i : Nat), Paired (fun a ns => SqT X.K H a (ns.map V.int)) as nss → i < nss.length → ∃ a2, as[i]? = some a2 ∧ SqT X.K H a2 ((nss.getD i []).map V.int) := by
        intro as nss i p
        induction p generalizing i with
        | nil => intro hi; cases hi
        | cons r t ih =>
          intro hi
          cases i with
          | zero => exact ⟨_, rfl, r⟩
          | succ i => exact ih i (Nat.lt_of_succ_lt_succ hi)
      exact key i ht hi
    rw [ea] at ea2
    cases ea2
    obtain ⟨it2, r2, isT, _⟩ := I.tuple hs
    exact ⟨it2.toArray, isT, intsAre_of r2⟩
  · have hm := (List.getElem?_eq_some_iff.mp ea).1
    rw [len] at ea hm
    exact ⟨.ref a, H, I.kept (t' := tk) keep, rfl, q a _ (by omega) ea rfl⟩
end My
namespace My
open PySem PySem.Spec PyProof.Rows L2
theorem sumK {X : Cx} {K : PySem.W.Frag} (h : X.K = K) (calm : X.calm = true) : CallR X (.builtin "sum") (rSum K) := by subst h; exact cr_sum calm
end My
namespace My
/-! ### a run that is looked at piece by piece -/
theorem map_two {α β γ : Type} {o : Option α} {f : α → β} {g : α → γ} {b : β} {c : γ} (h1 : o.map f = some b) (h2 : o.map g = some c) : o.map (fun s => (f s, g s)) = some (b, c) := by
  cases o with
  | none => cases h1
  | some s =>
    have e1 : f s = b := Option.some.inj h1
    have e2 : g s = c := Option.some.inj h2
    show some (f s, g s) = _
    rw [e1, e2]
end My
namespace My
open PySem PySem.Spec PyProof.Rows L2
/-! ### x in (a, b): items are data of any depth -/
section
variable {X : Cx}
theorem units65 {k : Nat} {A : Around} (r : Room k A) : A.units + 65 < cLine := by have := r.un; omega
def rInTD (K : PySem.W.Frag) : R2 := fun x y H Q => ∃ d ds, Dp K H x d ∧ Dp K H y (.tuple ds) ∧ SeqAt.shaped d = true ∧ SeqAt.shaped (.tuple ds) = true ∧ Q (.bl (ds.any fun z => PyData.eqv z d)) H
def rNotInTD (K : PySem.W.Frag) : R2 := fun x y H Q => ∃ d ds, Dp K H x d ∧ Dp K H y (.tuple ds) ∧ SeqAt.shaped d = true ∧ SeqAt.shaped (.tuple ds) = true ∧ Q (.bl (!ds.any fun z => PyData.eqv z d)) H
theorem op_inTD {K : PySem.W.Frag} (e : X.K = K) (hu : X.A.units + 65 < cLine) : OpR X (compareOp .In) (rInTD K) := by
  subst e
  intro pins s σ H x y v u Q I rx ry h
  obtain ⟨d, ds, hd, he, sd, se, q⟩ := h
  obtain ⟨as, r1⟩ := Dp.reads I d x v hd rx
  obtain ⟨bs, r2⟩ := Dp.reads I (.tuple ds) y u he ry
  exact SeqAt.in_tuple_reads r2 r1 (SeqAt.canLay_of_shaped se) (SeqAt.canLay_of_shaped sd) (room_in_shaped sd hu) ⟨.bl _, H, I, rfl, q⟩
theorem op_notInTD {K : PySem.W.Frag} (e : X.K = K) (hu : X.A.units + 65 < cLine) : OpR X (compareOp .NotIn) (rNotInTD K) := by
  subst e
  intro pins s σ H x y v u Q I rx ry h
  obtain ⟨d, ds, hd, he, sd, se, q⟩ := h
  obtain ⟨as, r1⟩ := Dp.reads I d x v hd rx
  obtain ⟨bs, r2⟩ := Dp.reads I (.tuple ds) y u he ry
  exact SeqAt.notIn_tuple_reads r2 r1 (SeqAt.canLay_of_shaped se) (SeqAt.canLay_of_shaped sd) (room_in_shaped sd hu) ⟨.bl _, H, I, rfl, q⟩
end
end My
set_option maxHeartbeats 0
namespace K67
open PySem PySem.Spec PyProof.Rows L2
def top (i : Nat) : Stmt := PySem.Challenge.pw_lockerwall_k67_whole_where_parcels_are.main.body.getD i (.Pass ⟨0, 0, 0, 0⟩)
abbrev s_Told_init : Stmt := inClass (top 1) 0
abbrev N_Told_init : List Str := ["self"]
theorem sc_Told_init : FnScope N_Told_init ["self"] (defScope s_Told_init) := C8.fnScope_by (by decide +kernel)
def d_Told_init : He.DefD := ⟨("Told", some "__init__"), "__init__", "Told.__init__", defArgs s_Told_init, defBody s_Told_init, defScope s_Told_init, [], []⟩
abbrev s_Told_report : Stmt := inClass (top 1) 1
abbrev N_Told_report : List Str := ["self"]
theorem sc_Told_report : FnScope N_Told_report ["self"] (defScope s_Told_report) := C8.fnScope_by (by decide +kernel)
def d_Told_report : He.DefD := ⟨("Told", some "report"), "report", "Told.report", defArgs s_Told_report, defBody s_Told_report, defScope s_Told_report, [], []⟩
abbrev s_Box_init : Stmt := inClass (top 2) 0
abbrev N_Box_init : List Str := ["self"]
theorem sc_Box_init : FnScope N_Box_init ["self"] (defScope s_Box_init) := C8.fnScope_by (by decide +kernel)
def d_Box_init : He.DefD := ⟨("Box", some "__init__"), "__init__", "Box.__init__", defArgs s_Box_init, defBody s_Box_init, defScope s_Box_init, [], []⟩
abbrev s_Box_copied : Stmt := inClass (top 2) 1
abbrev N_Box_copied : List Str := ["self", "twin"]
theorem sc_Box_copied : FnScope N_Box_copied ["self"] (defScope s_Box_copied) := C8.fnScope_by (by decide +kernel)
def d_Box_copied : He.DefD := ⟨("Box", some "copied"), "copied", "Box.copied", defArgs s_Box_copied, defBody s_Box_copied, defScope s_Box_copied, [], []⟩
abbrev s_Box_stands : Stmt := inClass (top 2) 2
abbrev N_Box_stands : List Str := ["self"]
theorem sc_Box_stands : FnScope N_Box_stands ["self"] (defScope s_Box_stands) := C8.fnScope_by (by decide +kernel)
def d_Box_stands : He.DefD := ⟨("Box", some "stands"), "stands", "Box.stands", defArgs s_Box_stands, defBody s_Box_stands, defScope s_Box_stands, [], []⟩
abbrev s_Box_bring : Stmt := inClass (top 2) 3
abbrev N_Box_bring : List Str := ["self", "book", "parcel", "lays", "shuts", "told"]
theorem sc_Box_bring : FnScope N_Box_bring ["self", "book", "parcel", "lays", "shuts"] (defScope s_Box_bring) := C8.fnScope_by (by decide +kernel)
def d_Box_bring : He.DefD := ⟨("Box", some "bring"), "bring", "Box.bring", defArgs s_Box_bring, defBody s_Box_bring, defScope s_Box_bring, [], []⟩
abbrev s_Box_code : Stmt := inClass (top 2) 4
abbrev N_Box_code : List Str := ["self", "book", "parcel", "takes", "shuts", "told", "missing"]
theorem sc_Box_code : FnScope N_Box_code ["self", "book", "parcel", "takes", "shuts"] (defScope s_Box_code) := C8.fnScope_by (by decide +kernel)
def d_Box_code : He.DefD := ⟨("Box", some "code"), "code", "Box.code", defArgs s_Box_code, defBody s_Box_code, defScope s_Box_code, [], []⟩
abbrev s_Box_pass_by : Stmt := inClass (top 2) 5
abbrev N_Box_pass_by : List Str := ["self", "told"]
theorem sc_Box_pass_by : FnScope N_Box_pass_by ["self"] (defScope s_Box_pass_by) := C8.fnScope_by (by decide +kernel)
def d_Box_pass_by : He.DefD := ⟨("Box", some "pass_by"), "pass_by", "Box.pass_by", defArgs s_Box_pass_by, defBody s_Box_pass_by, defScope s_Box_pass_by, [], []⟩
abbrev s_Box_day : Stmt := inClass (top 2) 6
abbrev N_Box_day : List Str := ["self", "book", "told"]
theorem sc_Box_day : FnScope N_Box_day ["self", "book"] (defScope s_Box_day) := C8.fnScope_by (by decide +kernel)
def d_Box_day : He.DefD := ⟨("Box", some "day"), "day", "Box.day", defArgs s_Box_day, defBody s_Box_day, defScope s_Box_day, [], []⟩
abbrev s_Box_power : Stmt := inClass (top 2) 7
abbrev N_Box_power : List Str := ["self", "book", "told"]
theorem sc_Box_power : FnScope N_Box_power ["self", "book"] (defScope s_Box_power) := C8.fnScope_by (by decide +kernel)
def d_Box_power : He.DefD := ⟨("Box", some "power"), "power", "Box.power", defArgs s_Box_power, defBody s_Box_power, defScope s_Box_power, [], []⟩
abbrev s_Box_let_take : Stmt := inClass (top 2) 8
abbrev N_Box_let_take : List Str := ["self", "own", "told", "parcel"]
theorem sc_Box_let_take : FnScope N_Box_let_take ["self", "own", "told"] (defScope s_Box_let_take) := C8.fnScope_by (by decide +kernel)
def d_Box_let_take : He.DefD := ⟨("Box", some "_let_take"), "_let_take", "Box._let_take", defArgs s_Box_let_take, defBody s_Box_let_take, defScope s_Box_let_take, [], []⟩
abbrev s_Box_go_away : Stmt := inClass (top 2) 9
abbrev N_Box_go_away : List Str := ["self", "book", "shuts", "moments", "told", "when_shut", "when_left"]
theorem sc_Box_go_away : FnScope N_Box_go_away ["self", "book", "shuts", "moments", "told"] (defScope s_Box_go_away) := C8.fnScope_by (by decide +kernel)
def d_Box_go_away : He.DefD := ⟨("Box", some "_go_away"), "_go_away", "Box._go_away", defArgs s_Box_go_away, defBody s_Box_go_away, defScope s_Box_go_away, [], []⟩
abbrev s_Box_carry_out : Stmt := inClass (top 2) 10
abbrev N_Box_carry_out : List Str := ["self", "book", "moment", "told", "action"]
theorem sc_Box_carry_out : FnScope N_Box_carry_out ["self", "book", "moment", "told"] (defScope s_Box_carry_out) := C8.fnScope_by (by decide +kernel)
def d_Box_carry_out : He.DefD := ⟨("Box", some "_carry_out"), "_carry_out", "Box._carry_out", defArgs s_Box_carry_out, defBody s_Box_carry_out, defScope s_Box_carry_out, [], []⟩
abbrev s_Box_act : Stmt := inClass (top 2) 11
abbrev N_Box_act : List Str := ["self", "action", "told"]
theorem sc_Box_act : FnScope N_Box_act ["self", "action", "told"] (defScope s_Box_act) := C8.fnScope_by (by decide +kernel)
def d_Box_act : He.DefD := ⟨("Box", some "_act"), "_act", "Box._act", defArgs s_Box_act, defBody s_Box_act, defScope s_Box_act, [], []⟩
abbrev s_Box_send_code : Stmt := inClass (top 2) 12
abbrev N_Box_send_code : List Str := ["self", "told"]
theorem sc_Box_send_code : FnScope N_Box_send_code ["self", "told"] (defScope s_Box_send_code) := C8.fnScope_by (by decide +kernel)
def d_Box_send_code : He.DefD := ⟨("Box", some "_send_code"), "_send_code", "Box._send_code", defArgs s_Box_send_code, defBody s_Box_send_code, defScope s_Box_send_code, [], []⟩
abbrev s_is_integer_within : Stmt := top 4
abbrev N_is_integer_within : List Str := ["value", "low", "high"]
theorem sc_is_integer_within : FnScope N_is_integer_within ["value", "low", "high"] (defScope s_is_integer_within) := C8.fnScope_by (by decide +kernel)
def d_is_integer_within : He.DefD := ⟨("is_integer_within", none), "is_integer_within", "is_integer_within", defArgs s_is_integer_within, defBody s_is_integer_within, defScope s_is_integer_within, [], []⟩
abbrev s_is_truth : Stmt := top 5
abbrev N_is_truth : List Str := ["value"]
theorem sc_is_truth : FnScope N_is_truth ["value"] (defScope s_is_truth) := C8.fnScope_by (by decide +kernel)
def d_is_truth : He.DefD := ⟨("is_truth", none), "is_truth", "is_truth", defArgs s_is_truth, defBody s_is_truth, defScope s_is_truth, [], []⟩
abbrev s_is_word : Stmt := top 6
abbrev N_is_word : List Str := ["value", "words"]
theorem sc_is_word : FnScope N_is_word ["value", "words"] (defScope s_is_word) := C8.fnScope_by (by decide +kernel)
def d_is_word : He.DefD := ⟨("is_word", none), "is_word", "is_word", defArgs s_is_word, defBody s_is_word, defScope s_is_word, [], []⟩
abbrev s_are_distinct_words : Stmt := top 7
abbrev N_are_distinct_words : List Str := ["value", "words", "item"]
theorem sc_are_distinct_words : FnScope N_are_distinct_words ["value", "words"] (defScope s_are_distinct_words) := C8.fnScope_by (by decide +kernel)
def d_are_distinct_words : He.DefD := ⟨("are_distinct_words", none), "are_distinct_words", "are_distinct_words", defArgs s_are_distinct_words, defBody s_are_distinct_words, defScope s_are_distinct_words, [], []⟩
abbrev s_are_truths : Stmt := top 22
abbrev N_are_truths : List Str := ["values", "value"]
theorem sc_are_truths : FnScope N_are_truths ["values"] (defScope s_are_truths) := C8.fnScope_by (by decide +kernel)
def d_are_truths : He.DefD := ⟨("are_truths", none), "are_truths", "are_truths", defArgs s_are_truths, defBody s_are_truths, defScope s_are_truths, [], []⟩
abbrev s_is_size : Stmt := top 26
abbrev N_is_size : List Str := ["value"]
theorem sc_is_size : FnScope N_is_size ["value"] (defScope s_is_size) := C8.fnScope_by (by decide +kernel)
def d_is_size : He.DefD := ⟨("is_size", none), "is_size", "is_size", defArgs s_is_size, defBody s_is_size, defScope s_is_size, [], []⟩
abbrev s_are_sizes : Stmt := top 27
abbrev N_are_sizes : List Str := ["value", "size"]
theorem sc_are_sizes : FnScope N_are_sizes ["value"] (defScope s_are_sizes) := C8.fnScope_by (by decide +kernel)
def d_are_sizes : He.DefD := ⟨("are_sizes", none), "are_sizes", "are_sizes", defArgs s_are_sizes, defBody s_are_sizes, defScope s_are_sizes, [], []⟩
abbrev s_check_truths : Stmt := top 28
abbrev N_check_truths : List Str := ["values"]
theorem sc_check_truths : FnScope N_check_truths ["values"] (defScope s_check_truths) := C8.fnScope_by (by decide +kernel)
def d_check_truths : He.DefD := ⟨("check_truths", none), "check_truths", "check_truths", defArgs s_check_truths, defBody s_check_truths, defScope s_check_truths, [], []⟩
abbrev s_Wall_init : Stmt := inClass (top 29) 0
abbrev N_Wall_init : List Str := ["self", "book", "sizes", "_"]
theorem sc_Wall_init : FnScope N_Wall_init ["self", "book", "sizes"] (defScope s_Wall_init) := C8.fnScope_by (by decide +kernel)
def d_Wall_init : He.DefD := ⟨("Wall", some "__init__"), "__init__", "Wall.__init__", defArgs s_Wall_init, defBody s_Wall_init, defScope s_Wall_init, [], []⟩
abbrev s_Wall__len__ : Stmt := inClass (top 29) 1
abbrev N_Wall__len__ : List Str := ["self"]
theorem sc_Wall__len__ : FnScope N_Wall__len__ ["self"] (defScope s_Wall__len__) := C8.fnScope_by (by decide +kernel)
def d_Wall__len__ : He.DefD := ⟨("Wall", some "__len__"), "__len__", "Wall.__len__", defArgs s_Wall__len__, defBody s_Wall__len__, defScope s_Wall__len__, [], []⟩
abbrev s_Wall__contains__ : Stmt := inClass (top 29) 2
abbrev N_Wall__contains__ : List Str := ["self", "parcel", "box"]
theorem sc_Wall__contains__ : FnScope N_Wall__contains__ ["self", "parcel"] (defScope s_Wall__contains__) := C8.fnScope_by (by decide +kernel)
def d_Wall__contains__ : He.DefD := ⟨("Wall", some "__contains__"), "__contains__", "Wall.__contains__", defArgs s_Wall__contains__, defBody s_Wall__contains__, defScope s_Wall__contains__, [], []⟩
abbrev s_Wall_parcels : Stmt := inClass (top 29) 3
abbrev N_Wall_parcels : List Str := ["self"]
theorem sc_Wall_parcels : FnScope N_Wall_parcels ["self"] (defScope s_Wall_parcels) := C8.fnScope_by (by decide +kernel)
def d_Wall_parcels : He.DefD := ⟨("Wall", some "parcels"), "parcels", "Wall.parcels", defArgs s_Wall_parcels, defBody s_Wall_parcels, defScope s_Wall_parcels, [], []⟩
abbrev s_Wall_lying : Stmt := inClass (top 29) 4
abbrev N_Wall_lying : List Str := ["self", "box"]
theorem sc_Wall_lying : FnScope N_Wall_lying ["self"] (defScope s_Wall_lying) := C8.fnScope_by (by decide +kernel)
def d_Wall_lying : He.DefD := ⟨("Wall", some "lying"), "lying", "Wall.lying", defArgs s_Wall_lying, defBody s_Wall_lying, defScope s_Wall_lying, [], []⟩
abbrev s_Wall_book : Stmt := inClass (top 29) 5
abbrev N_Wall_book : List Str := ["self"]
theorem sc_Wall_book : FnScope N_Wall_book ["self"] (defScope s_Wall_book) := C8.fnScope_by (by decide +kernel)
def d_Wall_book : He.DefD := ⟨("Wall", some "book"), "book", "Wall.book", defArgs s_Wall_book, defBody s_Wall_book, defScope s_Wall_book, [], []⟩
abbrev s_Wall_bring : Stmt := inClass (top 29) 7
abbrev N_Wall_bring : List Str := ["self", "size", "lays", "shuts", "number", "parcel", "told"]
theorem sc_Wall_bring : FnScope N_Wall_bring ["self", "size", "lays", "shuts"] (defScope s_Wall_bring) := C8.fnScope_by (by decide +kernel)
def d_Wall_bring : He.DefD := ⟨("Wall", some "bring"), "bring", "Wall.bring", defArgs s_Wall_bring, defBody s_Wall_bring, defScope s_Wall_bring, [], []⟩
abbrev s_Wall_code : Stmt := inClass (top 29) 8
abbrev N_Wall_code : List Str := ["self", "parcel", "takes", "shuts", "number", "told"]
theorem sc_Wall_code : FnScope N_Wall_code ["self", "parcel", "takes", "shuts"] (defScope s_Wall_code) := C8.fnScope_by (by decide +kernel)
def d_Wall_code : He.DefD := ⟨("Wall", some "code"), "code", "Wall.code", defArgs s_Wall_code, defBody s_Wall_code, defScope s_Wall_code, [], []⟩
abbrev s_Wall_pass_by : Stmt := inClass (top 29) 9
abbrev N_Wall_pass_by : List Str := ["self", "box"]
theorem sc_Wall_pass_by : FnScope N_Wall_pass_by ["self", "box"] (defScope s_Wall_pass_by) := C8.fnScope_by (by decide +kernel)
def d_Wall_pass_by : He.DefD := ⟨("Wall", some "pass_by"), "pass_by", "Wall.pass_by", defArgs s_Wall_pass_by, defBody s_Wall_pass_by, defScope s_Wall_pass_by, [], []⟩
abbrev s_Wall_day : Stmt := inClass (top 29) 10
abbrev N_Wall_day : List Str := ["self", "letters", "box"]
theorem sc_Wall_day : FnScope N_Wall_day ["self"] (defScope s_Wall_day) := C8.fnScope_by (by decide +kernel)
def d_Wall_day : He.DefD := ⟨("Wall", some "day"), "day", "Wall.day", defArgs s_Wall_day, defBody s_Wall_day, defScope s_Wall_day, [], []⟩
abbrev s_Wall_power : Stmt := inClass (top 29) 11
abbrev N_Wall_power : List Str := ["self", "letters", "box"]
theorem sc_Wall_power : FnScope N_Wall_power ["self"] (defScope s_Wall_power) := C8.fnScope_by (by decide +kernel)
def d_Wall_power : He.DefD := ⟨("Wall", some "power"), "power", "Wall.power", defArgs s_Wall_power, defBody s_Wall_power, defScope s_Wall_power, [], []⟩
abbrev s_Wall_box : Stmt := inClass (top 29) 12
abbrev N_Wall_box : List Str := ["self", "number"]
theorem sc_Wall_box : FnScope N_Wall_box ["self", "number"] (defScope s_Wall_box) := C8.fnScope_by (by decide +kernel)
def d_Wall_box : He.DefD := ⟨("Wall", some "box"), "box", "Wall.box", defArgs s_Wall_box, defBody s_Wall_box, defScope s_Wall_box, [], []⟩
abbrev s_Wall_change : Stmt := inClass (top 29) 13
abbrev N_Wall_change : List Str := ["self", "book"]
theorem sc_Wall_change : FnScope N_Wall_change ["self", "book"] (defScope s_Wall_change) := C8.fnScope_by (by decide +kernel)
def d_Wall_change : He.DefD := ⟨("Wall", some "change"), "change", "Wall.change", defArgs s_Wall_change, defBody s_Wall_change, defScope s_Wall_change, [], []⟩
abbrev s_Wall_undo : Stmt := inClass (top 29) 14
abbrev N_Wall_undo : List Str := ["self"]
theorem sc_Wall_undo : FnScope N_Wall_undo ["self"] (defScope s_Wall_undo) := C8.fnScope_by (by decide +kernel)
def d_Wall_undo : He.DefD := ⟨("Wall", some "undo"), "undo", "Wall.undo", defArgs s_Wall_undo, defBody s_Wall_undo, defScope s_Wall_undo, [], []⟩
abbrev s_Wall_was_brought : Stmt := inClass (top 29) 15
abbrev N_Wall_was_brought : List Str := ["self", "value"]
theorem sc_Wall_was_brought : FnScope N_Wall_was_brought ["self", "value"] (defScope s_Wall_was_brought) := C8.fnScope_by (by decide +kernel)
def d_Wall_was_brought : He.DefD := ⟨("Wall", some "_was_brought"), "_was_brought", "Wall._was_brought", defArgs s_Wall_was_brought, defBody s_Wall_was_brought, defScope s_Wall_was_brought, [], []⟩
abbrev s_Wall_check_box : Stmt := inClass (top 29) 16
abbrev N_Wall_check_box : List Str := ["self", "number"]
theorem sc_Wall_check_box : FnScope N_Wall_check_box ["self", "number"] (defScope s_Wall_check_box) := C8.fnScope_by (by decide +kernel)
def d_Wall_check_box : He.DefD := ⟨("Wall", some "_check_box"), "_check_box", "Wall._check_box", defArgs s_Wall_check_box, defBody s_Wall_check_box, defScope s_Wall_check_box, [], []⟩
abbrev s_Wall_remember : Stmt := inClass (top 29) 17
abbrev N_Wall_remember : List Str := ["self", "box"]
theorem sc_Wall_remember : FnScope N_Wall_remember ["self"] (defScope s_Wall_remember) := C8.fnScope_by (by decide +kernel)
def d_Wall_remember : He.DefD := ⟨("Wall", some "_remember"), "_remember", "Wall._remember", defArgs s_Wall_remember, defBody s_Wall_remember, defScope s_Wall_remember, [], []⟩
abbrev s_Wall_fitting : Stmt := inClass (top 29) 18
abbrev N_Wall_fitting : List Str := ["self", "size", "fitting", "number", "box"]
theorem sc_Wall_fitting : FnScope N_Wall_fitting ["self", "size"] (defScope s_Wall_fitting) := C8.fnScope_by (by decide +kernel)
def d_Wall_fitting : He.DefD := ⟨("Wall", some "_fitting"), "_fitting", "Wall._fitting", defArgs s_Wall_fitting, defBody s_Wall_fitting, defScope s_Wall_fitting, [], []⟩
abbrev s_is_rule : Stmt := top 35
abbrev N_is_rule : List Str := ["value", "action"]
theorem sc_is_rule : FnScope N_is_rule ["value"] (defScope s_is_rule) := C8.fnScope_by (by decide +kernel)
def d_is_rule : He.DefD := ⟨("is_rule", none), "is_rule", "is_rule", defArgs s_is_rule, defBody s_is_rule, defScope s_is_rule, [], []⟩
abbrev s_Book_init : Stmt := inClass (top 36) 0
abbrev N_Book_init : List Str := ["self", "days", "given", "laid", "left", "opened", "taken", "gone", "late", "power", "rules", "moment", "rule"]
theorem sc_Book_init : FnScope N_Book_init ["self", "days", "given", "laid", "left", "opened", "taken", "gone", "late", "power"] (defScope s_Book_init) := C8.fnScope_by (by decide +kernel)
def d_Book_init : He.DefD := ⟨("Book", some "__init__"), "__init__", "Book.__init__", defArgs s_Book_init, defBody s_Book_init, defScope s_Book_init, [.adr (He.dflAt ("Book", some "__init__") 0), .adr (He.dflAt ("Book", some "__init__") 1), .adr (He.dflAt ("Book", some "__init__") 2), .adr (He.dflAt ("Book", some "__init__") 3), .adr (He.dflAt ("Book", some "__init__") 4), .adr (He.dflAt ("Book", some "__init__") 5), .adr (He.dflAt ("Book", some "__init__") 6), .adr (He.dflAt ("Book", some "__init__") 7)], []⟩
abbrev s_Book_eq : Stmt := inClass (top 36) 1
abbrev N_Book_eq : List Str := ["self", "other"]
theorem sc_Book_eq : FnScope N_Book_eq ["self", "other"] (defScope s_Book_eq) := C8.fnScope_by (by decide +kernel)
def d_Book_eq : He.DefD := ⟨("Book", some "__eq__"), "__eq__", "Book.__eq__", defArgs s_Book_eq, defBody s_Book_eq, defScope s_Book_eq, [], []⟩
abbrev s_Book_days : Stmt := inClass (top 36) 2
abbrev N_Book_days : List Str := ["self"]
theorem sc_Book_days : FnScope N_Book_days ["self"] (defScope s_Book_days) := C8.fnScope_by (by decide +kernel)
def d_Book_days : He.DefD := ⟨("Book", some "days"), "days", "Book.days", defArgs s_Book_days, defBody s_Book_days, defScope s_Book_days, [], []⟩
abbrev s_Book_rule : Stmt := inClass (top 36) 3
abbrev N_Book_rule : List Str := ["self", "moment"]
theorem sc_Book_rule : FnScope N_Book_rule ["self", "moment"] (defScope s_Book_rule) := C8.fnScope_by (by decide +kernel)
def d_Book_rule : He.DefD := ⟨("Book", some "rule"), "rule", "Book.rule", defArgs s_Book_rule, defBody s_Book_rule, defScope s_Book_rule, [], []⟩
abbrev s_Book_rules : Stmt := inClass (top 36) 4
abbrev N_Book_rules : List Str := ["self"]
theorem sc_Book_rules : FnScope N_Book_rules ["self"] (defScope s_Book_rules) := C8.fnScope_by (by decide +kernel)
def d_Book_rules : He.DefD := ⟨("Book", some "rules"), "rules", "Book.rules", defArgs s_Book_rules, defBody s_Book_rules, defScope s_Book_rules, [], []⟩
abbrev s_Book_with_rule : Stmt := inClass (top 36) 5
abbrev N_Book_with_rule : List Str := ["self", "moment", "rule", "rules"]
theorem sc_Book_with_rule : FnScope N_Book_with_rule ["self", "moment", "rule"] (defScope s_Book_with_rule) := C8.fnScope_by (by decide +kernel)
def d_Book_with_rule : He.DefD := ⟨("Book", some "with_rule"), "with_rule", "Book.with_rule", defArgs s_Book_with_rule, defBody s_Book_with_rule, defScope s_Book_with_rule, [], []⟩
abbrev s_Book_with_days : Stmt := inClass (top 36) 6
abbrev N_Book_with_days : List Str := ["self", "days", "rules"]
theorem sc_Book_with_days : FnScope N_Book_with_days ["self", "days"] (defScope s_Book_with_days) := C8.fnScope_by (by decide +kernel)
def d_Book_with_days : He.DefD := ⟨("Book", some "with_days"), "with_days", "Book.with_days", defArgs s_Book_with_days, defBody s_Book_with_days, defScope s_Book_with_days, [], []⟩
abbrev s_Book_taking : Stmt := inClass (top 36) 7
abbrev N_Book_taking : List Str := ["self", "good", "moments", "rules", "moment"]
theorem sc_Book_taking : FnScope N_Book_taking ["self", "good", "moments"] (defScope s_Book_taking) := C8.fnScope_by (by decide +kernel)
def d_Book_taking : He.DefD := ⟨("Book", some "taking"), "taking", "Book.taking", defArgs s_Book_taking, defBody s_Book_taking, defScope s_Book_taking, [], []⟩
abbrev s_book_text : Stmt := top 39
abbrev N_book_text : List Str := ["book", "lines", "moment", "rule"]
theorem sc_book_text : FnScope N_book_text ["book"] (defScope s_book_text) := C8.fnScope_by (by decide +kernel)
def d_book_text : He.DefD := ⟨("book_text", none), "book_text", "book_text", defArgs s_book_text, defBody s_book_text, defScope s_book_text, [], []⟩
abbrev s_read_book : Stmt := top 40
abbrev N_read_book : List Str := ["text", "lines", "days", "rules", "at", "moment", "rule"]
theorem sc_read_book : FnScope N_read_book ["text"] (defScope s_read_book) := C8.fnScope_by (by decide +kernel)
def d_read_book : He.DefD := ⟨("read_book", none), "read_book", "read_book", defArgs s_read_book, defBody s_read_book, defScope s_read_book, [], []⟩
abbrev s_lines_of : Stmt := top 41
abbrev N_lines_of : List Str := ["text"]
theorem sc_lines_of : FnScope N_lines_of ["text"] (defScope s_lines_of) := C8.fnScope_by (by decide +kernel)
def d_lines_of : He.DefD := ⟨("lines_of", none), "lines_of", "lines_of", defArgs s_lines_of, defBody s_lines_of, defScope s_lines_of, [], []⟩
abbrev s_read_number : Stmt := top 42
abbrev N_read_number : List Str := ["figures", "most", "figure"]
theorem sc_read_number : FnScope N_read_number ["figures", "most"] (defScope s_read_number) := C8.fnScope_by (by decide +kernel)
def d_read_number : He.DefD := ⟨("read_number", none), "read_number", "read_number", defArgs s_read_number, defBody s_read_number, defScope s_read_number, [], []⟩
abbrev s_read_days : Stmt := top 43
abbrev N_read_days : List Str := ["line", "word", "_", "figures"]
theorem sc_read_days : FnScope N_read_days ["line"] (defScope s_read_days) := C8.fnScope_by (by decide +kernel)
def d_read_days : He.DefD := ⟨("read_days", none), "read_days", "read_days", defArgs s_read_days, defBody s_read_days, defScope s_read_days, [], []⟩
abbrev s_read_rule : Stmt := top 44
abbrev N_read_rule : List Str := ["line", "moment", "words", "rule"]
theorem sc_read_rule : FnScope N_read_rule ["line", "moment"] (defScope s_read_rule) := C8.fnScope_by (by decide +kernel)
def d_read_rule : He.DefD := ⟨("read_rule", none), "read_rule", "read_rule", defArgs s_read_rule, defBody s_read_rule, defScope s_read_rule, [], []⟩
abbrev s_law_well : Stmt := top 46
abbrev N_law_well : List Str := ["script", "k", "cell"]
theorem sc_law_well : FnScope N_law_well ["script", "k"] (defScope s_law_well) := C8.fnScope_by (by decide +kernel)
def d_law_well : He.DefD := ⟨("_law_well", none), "_law_well", "_law_well", defArgs s_law_well, defBody s_law_well, defScope s_law_well, [], []⟩
abbrev s_law_draw : Stmt := top 47
abbrev N_law_draw : List Str := ["well", "many", "found", "step", "mixed"]
theorem sc_law_draw : FnScope N_law_draw ["well", "many"] (defScope s_law_draw) := C8.fnScope_by (by decide +kernel)
def d_law_draw : He.DefD := ⟨("_law_draw", none), "_law_draw", "_law_draw", defArgs s_law_draw, defBody s_law_draw, defScope s_law_draw, [], []⟩
abbrev s_law_pick : Stmt := top 48
abbrev N_law_pick : List Str := ["well", "row"]
theorem sc_law_pick : FnScope N_law_pick ["well", "row"] (defScope s_law_pick) := C8.fnScope_by (by decide +kernel)
def d_law_pick : He.DefD := ⟨("_law_pick", none), "_law_pick", "_law_pick", defArgs s_law_pick, defBody s_law_pick, defScope s_law_pick, [], []⟩
abbrev s_law_any_rule : Stmt := top 49
abbrev N_law_any_rule : List Str := ["well", "actions", "k"]
theorem sc_law_any_rule : FnScope N_law_any_rule ["well"] (defScope s_law_any_rule) := C8.fnScope_by (by decide +kernel)
def d_law_any_rule : He.DefD := ⟨("_law_any_rule", none), "_law_any_rule", "_law_any_rule", defArgs s_law_any_rule, defBody s_law_any_rule, defScope s_law_any_rule, [], []⟩
abbrev s_law_rules : Stmt := top 50
abbrev N_law_rules : List Str := ["well", "k", "found", "turn", "spot"]
theorem sc_law_rules : FnScope N_law_rules ["well"] (defScope s_law_rules) := C8.fnScope_by (by decide +kernel)
def d_law_rules : He.DefD := ⟨("_law_rules", none), "_law_rules", "_law_rules", defArgs s_law_rules, defBody s_law_rules, defScope s_law_rules, [], []⟩
abbrev s_law_number : Stmt := top 51
abbrev N_law_number : List Str := ["well"]
theorem sc_law_number : FnScope N_law_number ["well"] (defScope s_law_number) := C8.fnScope_by (by decide +kernel)
def d_law_number : He.DefD := ⟨("_law_number", none), "_law_number", "_law_number", defArgs s_law_number, defBody s_law_number, defScope s_law_number, [], []⟩
abbrev s_law_sizes : Stmt := top 52
abbrev N_law_sizes : List Str := ["well", "most", "many", "k"]
theorem sc_law_sizes : FnScope N_law_sizes ["well"] (defScope s_law_sizes) := C8.fnScope_by (by decide +kernel)
def d_law_sizes : He.DefD := ⟨("_law_sizes", none), "_law_sizes", "_law_sizes", defArgs s_law_sizes, defBody s_law_sizes, defScope s_law_sizes, [], []⟩
abbrev s_law_plain : Stmt := top 53
abbrev N_law_plain : List Str := ["number", "rules"]
theorem sc_law_plain : FnScope N_law_plain ["number", "rules"] (defScope s_law_plain) := C8.fnScope_by (by decide +kernel)
def d_law_plain : He.DefD := ⟨("_law_plain", none), "_law_plain", "_law_plain", defArgs s_law_plain, defBody s_law_plain, defScope s_law_plain, [], []⟩
abbrev s_law_book : Stmt := top 54
abbrev N_law_book : List Str := ["number", "rules", "way", "other", "moments"]
theorem sc_law_book : FnScope N_law_book ["number", "rules", "way"] (defScope s_law_book) := C8.fnScope_by (by decide +kernel)
def d_law_book : He.DefD := ⟨("_law_book", none), "_law_book", "_law_book", defArgs s_law_book, defBody s_law_book, defScope s_law_book, [], []⟩
abbrev s_law_made : Stmt := top 55
abbrev N_law_made : List Str := ["wall", "call"]
theorem sc_law_made : FnScope N_law_made ["wall", "call"] (defScope s_law_made) := C8.fnScope_by (by decide +kernel)
def d_law_made : He.DefD := ⟨("_law_made", none), "_law_made", "_law_made", defArgs s_law_made, defBody s_law_made, defScope s_law_made, [], []⟩
abbrev s_law_next : Stmt := top 56
abbrev N_law_next : List Str := ["well", "many", "brought", "way", "yes", "shuts", "parcel"]
theorem sc_law_next : FnScope N_law_next ["well", "many", "brought"] (defScope s_law_next) := C8.fnScope_by (by decide +kernel)
def d_law_next : He.DefD := ⟨("_law_next", none), "_law_next", "_law_next", defArgs s_law_next, defBody s_law_next, defScope s_law_next, [], []⟩
abbrev s_law_seen : Stmt := top 57
abbrev N_law_seen : List Str := ["wall", "at"]
theorem sc_law_seen : FnScope N_law_seen ["wall"] (defScope s_law_seen) := C8.fnScope_by (by decide +kernel)
def d_law_seen : He.DefD := ⟨("_law_seen", none), "_law_seen", "_law_seen", defArgs s_law_seen, defBody s_law_seen, defScope s_law_seen, [], []⟩
abbrev s_law_moved : Stmt := top 58
abbrev N_law_moved : List Str := ["sizes", "call", "told", "ahead", "behind", "homes", "still", "at", "parcel", "one", "inside", "due", "kept"]
theorem sc_law_moved : FnScope N_law_moved ["sizes", "call", "told", "ahead", "behind", "homes"] (defScope s_law_moved) := C8.fnScope_by (by decide +kernel)
def d_law_moved : He.DefD := ⟨("_law_moved", none), "_law_moved", "_law_moved", defArgs s_law_moved, defBody s_law_moved, defScope s_law_moved, [], []⟩
abbrev s_law_aged : Stmt := top 59
abbrev N_law_aged : List Str := ["call", "told", "ahead", "behind", "homes", "at", "days", "own", "parcel", "one"]
theorem sc_law_aged : FnScope N_law_aged ["call", "told", "ahead", "behind", "homes"] (defScope s_law_aged) := C8.fnScope_by (by decide +kernel)
def d_law_aged : He.DefD := ⟨("_law_aged", none), "_law_aged", "_law_aged", defArgs s_law_aged, defBody s_law_aged, defScope s_law_aged, [], []⟩
abbrev s_law_stands : Stmt := top 60
abbrev N_law_stands : List Str := ["wall", "homes", "had", "letters", "rooms", "lying", "at", "one"]
theorem sc_law_stands : FnScope N_law_stands ["wall", "homes", "had", "letters"] (defScope s_law_stands) := C8.fnScope_by (by decide +kernel)
def d_law_stands : He.DefD := ⟨("_law_stands", none), "_law_stands", "_law_stands", defArgs s_law_stands, defBody s_law_stands, defScope s_law_stands, [], []⟩
abbrev s_law_step : Stmt := top 61
abbrev N_law_step : List Str := ["wall", "sizes", "call", "homes", "had", "letters", "ahead", "told", "behind", "got", "one"]
theorem sc_law_step : FnScope N_law_step ["wall", "sizes", "call", "homes", "had", "letters"] (defScope s_law_step) := C8.fnScope_by (by decide +kernel)
def d_law_step : He.DefD := ⟨("_law_step", none), "_law_step", "_law_step", defArgs s_law_step, defBody s_law_step, defScope s_law_step, [], []⟩
abbrev s_law : Stmt := top 62
abbrev N_law : List Str := ["script", "well", "plans", "k", "sizes", "homes", "had", "letters", "wall", "wells", "spring", "turn", "call"]
theorem sc_law : FnScope N_law ["script"] (defScope s_law) := C8.fnScope_by (by decide +kernel)
def d_law : He.DefD := ⟨("law", none), "law", "law", defArgs s_law, defBody s_law, defScope s_law, [], []⟩
def fa0 : List He.Fa := [.glo "is_integer_within", .glo "is_truth", .glo "is_word", .glo "are_distinct_words", .glo "are_truths", .glo "is_size", .glo "are_sizes", .glo "check_truths", .glo "is_rule", .glo "book_text", .glo "read_book", .glo "lines_of", .glo "read_number", .glo "read_days", .glo "read_rule", .glo "_law_well", .glo "_law_draw", .glo "_law_pick", .glo "_law_any_rule", .glo "_law_rules"]
def fa1 : List He.Fa := [.glo "_law_number", .glo "_law_sizes", .glo "_law_plain", .glo "_law_book", .glo "_law_made", .glo "_law_next", .glo "_law_seen", .glo "_law_moved", .glo "_law_aged", .glo "_law_stands", .glo "_law_step", .glo "law", .glo "Told", .glo "Box", .glo "Wall", .glo "Book", .glo "WallError", .glo "NoDays", .glo "NoMoments", .glo "NoSizes"]
def fa2 : List He.Fa := [.glo "NoSize", .glo "NothingToUndo", .glo "NoRule", .glo "NoMoment", .glo "NoDeed", .glo "NoParcel", .glo "NoBox", .glo "NoText", .int "MOST_BOXES" 12, .int "MOST_SIZE" 9, .glo "ACTIONS", .glo "MOMENTS", .int "MOST_ACTIONS" 6, .int "MOST_DAYS" 30, .str "FIGURES" "0123456789", .free "len", .free "abs", .free "max", .free "min", .free "isinstance"]
def fa3 : List He.Fa := [.free "all", .free "any", .free "sorted", .free "zip", .free "enumerate", .free "super", .free "sum", .free "ValueError", .free "int", .free "str", .free "bool", .free "list", .free "tuple", .free "dict", .free "set", .free "range", .cls "Told", .noat "Told" "letters", .noat "Told" "opened", .noat "Told" "got"]
def fa4 : List He.Fa := [.noat "Told" "lays", .noat "Told" "wrongs", .noat "Told" "moments", .meth "Told" "report", .mkr "Told", .cls "Box", .noat "Box" "ajar", .noat "Box" "inside", .noat "Box" "taken_for", .noat "Box" "valid", .noat "Box" "age", .noat "Box" "last", .noat "Box" "sent", .noat "Box" "served", .meth "Box" "copied", .meth "Box" "stands", .meth "Box" "bring", .meth "Box" "code", .meth "Box" "pass_by", .meth "Box" "day"]
def fa5 : List He.Fa := [.meth "Box" "power", .meth "Box" "_let_take", .meth "Box" "_go_away", .meth "Box" "_carry_out", .meth "Box" "_act", .meth "Box" "_send_code", .mkr "Box", .cls "Wall", .noat "Wall" "_book", .noat "Wall" "_sizes", .noat "Wall" "_boxes", .noat "Wall" "_given", .noat "Wall" "_past", .meth "Wall" "__len__", .meth "Wall" "__contains__", .meth "Wall" "bring", .meth "Wall" "code", .meth "Wall" "pass_by", .meth "Wall" "day", .meth "Wall" "power"]
def fa6 : List He.Fa := [.meth "Wall" "box", .meth "Wall" "change", .meth "Wall" "undo", .meth "Wall" "_was_brought", .meth "Wall" "_check_box", .meth "Wall" "_remember", .meth "Wall" "_fitting", .mkr "Wall", .cls "Book", .noat "Book" "_days", .noat "Book" "_rules", .meth "Book" "__eq__", .meth "Book" "days", .meth "Book" "rule", .meth "Book" "rules", .meth "Book" "with_rule", .meth "Book" "with_days", .meth "Book" "taking", .mkr "Book"]
def fa : List He.Fa := fa0 ++ fa1 ++ fa2 ++ fa3 ++ fa4 ++ fa5 ++ fa6
def fn0 : List He.DefD := [d_Told_init, d_Told_report, d_Box_init, d_Box_copied, d_Box_stands, d_Box_bring, d_Box_code, d_Box_pass_by, d_Box_day, d_Box_power, d_Box_let_take, d_Box_go_away, d_Box_carry_out, d_Box_act, d_Box_send_code, d_is_integer_within, d_is_truth, d_is_word, d_are_distinct_words, d_are_truths]
def fn1 : List He.DefD := [d_is_size, d_are_sizes, d_check_truths, d_Wall_init, d_Wall__len__, d_Wall__contains__, d_Wall_bring, d_Wall_code, d_Wall_pass_by, d_Wall_day, d_Wall_power, d_Wall_box, d_Wall_change, d_Wall_undo, d_Wall_was_brought, d_Wall_check_box, d_Wall_remember, d_Wall_fitting, d_is_rule, d_Book_init]
def fn2 : List He.DefD := [d_Book_eq, d_Book_days, d_Book_rule, d_Book_rules, d_Book_with_rule, d_Book_with_days, d_Book_taking, d_book_text, d_read_book, d_lines_of, d_read_number, d_read_days, d_read_rule, d_law_well, d_law_draw, d_law_pick, d_law_any_rule, d_law_rules, d_law_number, d_law_sizes]
def fn3 : List He.DefD := [d_law_plain, d_law_book, d_law_made, d_law_next, d_law_seen, d_law_moved, d_law_aged, d_law_stands, d_law_step, d_law]
def fn : List He.DefD := fn0 ++ fn1 ++ fn2 ++ fn3
def gs : List My.GetD := [(("Wall", "parcels"), d_Wall_parcels), (("Wall", "lying"), d_Wall_lying), (("Wall", "book"), d_Wall_book)]
def ts : List He.Tab := []
def exl (K : PySem.W.Frag) : List Bool := [My.tupAt K (He.ga K "ACTIONS") [.str "free", .str "full", .str "off", .str "code", .str "void", .str "look", .str "lock"], My.tupAt K (He.ga K "MOMENTS") [.str "given", .str "laid", .str "left", .str "opened", .str "taken", .str "gone", .str "late", .str "power"], My.tupAt K (He.dflAt ("Book", some "__init__") 0 K) [], My.tupAt K (He.dflAt ("Book", some "__init__") 1 K) [], My.tupAt K (He.dflAt ("Book", some "__init__") 2 K) [], My.tupAt K (He.dflAt ("Book", some "__init__") 3 K) [], My.tupAt K (He.dflAt ("Book", some "__init__") 4 K) [], My.tupAt K (He.dflAt ("Book", some "__init__") 5 K) [], My.tupAt K (He.dflAt ("Book", some "__init__") 6 K) [], My.tupAt K (He.dflAt ("Book", some "__init__") 7 K) [], My.insB K (He.ga K "Book")]
def ex (K : PySem.W.Frag) : Bool := (exl K).all id
structure Txt (w : World) (K : PySem.W.Frag) (mg : Str → Option Value) : Prop where
  ex : ∃ h : Heap, K.In h ∧ h.Ns mainGlobals mg ∧ He.SaysD fa fn K ∧ ex K = true
  tabs : My.tabsOf ts K = My.tabsDue ts w
  getb : My.getsB gs K = true
  gets : My.getsOf gs K = My.getsDue gs
section
variable {w : World} {K : PySem.W.Frag} {mg : Str → Option Value}
theorem Txt.g_is_integer_within (T : Txt w K mg) : mg "is_integer_within" = some (.ref (He.ga K "is_integer_within")) := by
  obtain ⟨h, X, G, c, _⟩ := T.ex
  exact He.glo_ok X G (c.fact 0 rfl)
theorem Txt.g_is_truth (T : Txt w K mg) : mg "is_truth" = some (.ref (He.ga K "is_truth")) := by
  obtain ⟨h, X, G, c, _⟩ := T.ex
  exact He.glo_ok X G (c.fact 1 rfl)
theorem Txt.g_is_word (T : Txt w K mg) : mg "is_word" = some (.ref (He.ga K "is_word")) := by
  obtain ⟨h, X, G, c, _⟩ := T.ex
  exact He.glo_ok X G (c.fact 2 rfl)
theorem Txt.g_are_distinct_words (T : Txt w K mg) : mg "are_distinct_words" = some (.ref (He.ga K "are_distinct_words")) := by
  obtain ⟨h, X, G, c, _⟩ := T.ex
  exact He.glo_ok X G (c.fact 3 rfl)
theorem Txt.g_are_truths (T : Txt w K mg) : mg "are_truths" = some (.ref (He.ga K "are_truths")) := by
  obtain ⟨h, X, G, c, _⟩ := T.ex
  exact He.glo_ok X G (c.fact 4 rfl)
theorem Txt.g_is_size (T : Txt w K mg) : mg "is_size" = some (.ref (He.ga K "is_size")) := by
  obtain ⟨h, X, G, c, _⟩ := T.ex
  exact He.glo_ok X G (c.fact 5 rfl)
theorem Txt.g_are_sizes (T : Txt w K mg) : mg "are_sizes" = some (.ref (He.ga K "are_sizes")) := by
  obtain ⟨h, X, G, c, _⟩ := T.ex
  exact He.glo_ok X G (c.fact 6 rfl)
theorem Txt.g_check_truths (T : Txt w K mg) : mg "check_truths" = some (.ref (He.ga K "check_truths")) := by
  obtain ⟨h, X, G, c, _⟩ := T.ex
  exact He.glo_ok X G (c.fact 7 rfl)
theorem Txt.g_is_rule (T : Txt w K mg) : mg "is_rule" = some (.ref (He.ga K "is_rule")) := by
  obtain ⟨h, X, G, c, _⟩ := T.ex
  exact He.glo_ok X G (c.fact 8 rfl)
theorem Txt.g_book_text (T : Txt w K mg) : mg "book_text" = some (.ref (He.ga K "book_text")) := by
  obtain ⟨h, X, G, c, _⟩ := T.ex
  exact He.glo_ok X G (c.fact 9 rfl)
theorem Txt.g_read_book (T : Txt w K mg) : mg "read_book" = some (.ref (He.ga K "read_book")) := by
  obtain ⟨h, X, G, c, _⟩ := T.ex
  exact He.glo_ok X G (c.fact 10 rfl)
theorem Txt.g_lines_of (T : Txt w K mg) : mg "lines_of" = some (.ref (He.ga K "lines_of")) := by
  obtain ⟨h, X, G, c, _⟩ := T.ex
  exact He.glo_ok X G (c.fact 11 rfl)
theorem Txt.g_read_number (T : Txt w K mg) : mg "read_number" = some (.ref (He.ga K "read_number")) := by
  obtain ⟨h, X, G, c, _⟩ := T.ex
  exact He.glo_ok X G (c.fact 12 rfl)
theorem Txt.g_read_days (T : Txt w K mg) : mg "read_days" = some (.ref (He.ga K "read_days")) := by
  obtain ⟨h, X, G, c, _⟩ := T.ex
  exact He.glo_ok X G (c.fact 13 rfl)
theorem Txt.g_read_rule (T : Txt w K mg) : mg "read_rule" = some (.ref (He.ga K "read_rule")) := by
  obtain ⟨h, X, G, c, _⟩ := T.ex
  exact He.glo_ok X G (c.fact 14 rfl)
theorem Txt.g_law_well (T : Txt w K mg) : mg "_law_well" = some (.ref (He.ga K "_law_well")) := by
  obtain ⟨h, X, G, c, _⟩ := T.ex
  exact He.glo_ok X G (c.fact 15 rfl)
theorem Txt.g_law_draw (T : Txt w K mg) : mg "_law_draw" = some (.ref (He.ga K "_law_draw")) := by
  obtain ⟨h, X, G, c, _⟩ := T.ex
  exact He.glo_ok X G (c.fact 16 rfl)
theorem Txt.g_law_pick (T : Txt w K mg) : mg "_law_pick" = some (.ref (He.ga K "_law_pick")) := by
  obtain ⟨h, X, G, c, _⟩ := T.ex
  exact He.glo_ok X G (c.fact 17 rfl)
theorem Txt.g_law_any_rule (T : Txt w K mg) : mg "_law_any_rule" = some (.ref (He.ga K "_law_any_rule")) := by
  obtain ⟨h, X, G, c, _⟩ := T.ex
  exact He.glo_ok X G (c.fact 18 rfl)
theorem Txt.g_law_rules (T : Txt w K mg) : mg "_law_rules" = some (.ref (He.ga K "_law_rules")) := by
  obtain ⟨h, X, G, c, _⟩ := T.ex
  exact He.glo_ok X G (c.fact 19 rfl)
theorem Txt.g_law_number (T : Txt w K mg) : mg "_law_number" = some (.ref (He.ga K "_law_number")) := by
  obtain ⟨h, X, G, c, _⟩ := T.ex
  exact He.glo_ok X G (c.fact 20 rfl)
theorem Txt.g_law_sizes (T : Txt w K mg) : mg "_law_sizes" = some (.ref (He.ga K "_law_sizes")) := by
  obtain ⟨h, X, G, c, _⟩ := T.ex
  exact He.glo_ok X G (c.fact 21 rfl)
theorem Txt.g_law_plain (T : Txt w K mg) : mg "_law_plain" = some (.ref (He.ga K "_law_plain")) := by
  obtain ⟨h, X, G, c, _⟩ := T.ex
  exact He.glo_ok X G (c.fact 22 rfl)
theorem Txt.g_law_book (T : Txt w K mg) : mg "_law_book" = some (.ref (He.ga K "_law_book")) := by
  obtain ⟨h, X, G, c, _⟩ := T.ex
  exact He.glo_ok X G (c.fact 23 rfl)
theorem Txt.g_law_made (T : Txt w K mg) : mg "_law_made" = some (.ref (He.ga K "_law_made")) := by
  obtain ⟨h, X, G, c, _⟩ := T.ex
  exact He.glo_ok X G (c.fact 24 rfl)
theorem Txt.g_law_next (T : Txt w K mg) : mg "_law_next" = some (.ref (He.ga K "_law_next")) := by
  obtain ⟨h, X, G, c, _⟩ := T.ex
  exact He.glo_ok X G (c.fact 25 rfl)
theorem Txt.g_law_seen (T : Txt w K mg) : mg "_law_seen" = some (.ref (He.ga K "_law_seen")) := by
  obtain ⟨h, X, G, c, _⟩ := T.ex
  exact He.glo_ok X G (c.fact 26 rfl)
theorem Txt.g_law_moved (T : Txt w K mg) : mg "_law_moved" = some (.ref (He.ga K "_law_moved")) := by
  obtain ⟨h, X, G, c, _⟩ := T.ex
  exact He.glo_ok X G (c.fact 27 rfl)
theorem Txt.g_law_aged (T : Txt w K mg) : mg "_law_aged" = some (.ref (He.ga K "_law_aged")) := by
  obtain ⟨h, X, G, c, _⟩ := T.ex
  exact He.glo_ok X G (c.fact 28 rfl)
theorem Txt.g_law_stands (T : Txt w K mg) : mg "_law_stands" = some (.ref (He.ga K "_law_stands")) := by
  obtain ⟨h, X, G, c, _⟩ := T.ex
  exact He.glo_ok X G (c.fact 29 rfl)
theorem Txt.g_law_step (T : Txt w K mg) : mg "_law_step" = some (.ref (He.ga K "_law_step")) := by
  obtain ⟨h, X, G, c, _⟩ := T.ex
  exact He.glo_ok X G (c.fact 30 rfl)
theorem Txt.g_law (T : Txt w K mg) : mg "law" = some (.ref (He.ga K "law")) := by
  obtain ⟨h, X, G, c, _⟩ := T.ex
  exact He.glo_ok X G (c.fact 31 rfl)
theorem Txt.g_Told (T : Txt w K mg) : mg "Told" = some (.ref (He.ga K "Told")) := by
  obtain ⟨h, X, G, c, _⟩ := T.ex
  exact He.glo_ok X G (c.fact 32 rfl)
theorem Txt.g_Box (T : Txt w K mg) : mg "Box" = some (.ref (He.ga K "Box")) := by
  obtain ⟨h, X, G, c, _⟩ := T.ex
  exact He.glo_ok X G (c.fact 33 rfl)
theorem Txt.g_Wall (T : Txt w K mg) : mg "Wall" = some (.ref (He.ga K "Wall")) := by
  obtain ⟨h, X, G, c, _⟩ := T.ex
  exact He.glo_ok X G (c.fact 34 rfl)
theorem Txt.g_Book (T : Txt w K mg) : mg "Book" = some (.ref (He.ga K "Book")) := by
  obtain ⟨h, X, G, c, _⟩ := T.ex
  exact He.glo_ok X G (c.fact 35 rfl)
theorem Txt.g_WallError (T : Txt w K mg) : mg "WallError" = some (.ref (He.ga K "WallError")) := by
  obtain ⟨h, X, G, c, _⟩ := T.ex
  exact He.glo_ok X G (c.fact 36 rfl)
theorem Txt.g_NoDays (T : Txt w K mg) : mg "NoDays" = some (.ref (He.ga K "NoDays")) := by
  obtain ⟨h, X, G, c, _⟩ := T.ex
  exact He.glo_ok X G (c.fact 37 rfl)
theorem Txt.g_NoMoments (T : Txt w K mg) : mg "NoMoments" = some (.ref (He.ga K "NoMoments")) := by
  obtain ⟨h, X, G, c, _⟩ := T.ex
  exact He.glo_ok X G (c.fact 38 rfl)
theorem Txt.g_NoSizes (T : Txt w K mg) : mg "NoSizes" = some (.ref (He.ga K "NoSizes")) := by
  obtain ⟨h, X, G, c, _⟩ := T.ex
  exact He.glo_ok X G (c.fact 39 rfl)
theorem Txt.g_NoSize (T : Txt w K mg) : mg "NoSize" = some (.ref (He.ga K "NoSize")) := by
  obtain ⟨h, X, G, c, _⟩ := T.ex
  exact He.glo_ok X G (c.fact 40 rfl)
theorem Txt.g_NothingToUndo (T : Txt w K mg) : mg "NothingToUndo" = some (.ref (He.ga K "NothingToUndo")) := by
  obtain ⟨h, X, G, c, _⟩ := T.ex
  exact He.glo_ok X G (c.fact 41 rfl)
theorem Txt.g_NoRule (T : Txt w K mg) : mg "NoRule" = some (.ref (He.ga K "NoRule")) := by
  obtain ⟨h, X, G, c, _⟩ := T.ex
  exact He.glo_ok X G (c.fact 42 rfl)
theorem Txt.g_NoMoment (T : Txt w K mg) : mg "NoMoment" = some (.ref (He.ga K "NoMoment")) := by
  obtain ⟨h, X, G, c, _⟩ := T.ex
  exact He.glo_ok X G (c.fact 43 rfl)
theorem Txt.g_NoDeed (T : Txt w K mg) : mg "NoDeed" = some (.ref (He.ga K "NoDeed")) := by
  obtain ⟨h, X, G, c, _⟩ := T.ex
  exact He.glo_ok X G (c.fact 44 rfl)
theorem Txt.g_NoParcel (T : Txt w K mg) : mg "NoParcel" = some (.ref (He.ga K "NoParcel")) := by
  obtain ⟨h, X, G, c, _⟩ := T.ex
  exact He.glo_ok X G (c.fact 45 rfl)
theorem Txt.g_NoBox (T : Txt w K mg) : mg "NoBox" = some (.ref (He.ga K "NoBox")) := by
  obtain ⟨h, X, G, c, _⟩ := T.ex
  exact He.glo_ok X G (c.fact 46 rfl)
theorem Txt.g_NoText (T : Txt w K mg) : mg "NoText" = some (.ref (He.ga K "NoText")) := by
  obtain ⟨h, X, G, c, _⟩ := T.ex
  exact He.glo_ok X G (c.fact 47 rfl)
theorem Txt.g_MOST_BOXES (T : Txt w K mg) : ∃ t, mg "MOST_BOXES" = some (.int 12 t) := by
  obtain ⟨h, X, G, c, _⟩ := T.ex
  exact He.int_ok X G (c.fact 48 rfl)
theorem Txt.g_MOST_SIZE (T : Txt w K mg) : ∃ t, mg "MOST_SIZE" = some (.int 9 t) := by
  obtain ⟨h, X, G, c, _⟩ := T.ex
  exact He.int_ok X G (c.fact 49 rfl)
theorem Txt.g_ACTIONS (T : Txt w K mg) : mg "ACTIONS" = some (.ref (He.ga K "ACTIONS")) := by
  obtain ⟨h, X, G, c, _⟩ := T.ex
  exact He.glo_ok X G (c.fact 50 rfl)
theorem Txt.g_MOMENTS (T : Txt w K mg) : mg "MOMENTS" = some (.ref (He.ga K "MOMENTS")) := by
  obtain ⟨h, X, G, c, _⟩ := T.ex
  exact He.glo_ok X G (c.fact 51 rfl)
theorem Txt.g_MOST_ACTIONS (T : Txt w K mg) : ∃ t, mg "MOST_ACTIONS" = some (.int 6 t) := by
  obtain ⟨h, X, G, c, _⟩ := T.ex
  exact He.int_ok X G (c.fact 52 rfl)
theorem Txt.g_MOST_DAYS (T : Txt w K mg) : ∃ t, mg "MOST_DAYS" = some (.int 30 t) := by
  obtain ⟨h, X, G, c, _⟩ := T.ex
  exact He.int_ok X G (c.fact 53 rfl)
theorem Txt.g_FIGURES (T : Txt w K mg) : ∃ t, mg "FIGURES" = some (.str "0123456789" t) := by
  obtain ⟨h, X, G, c, _⟩ := T.ex
  exact He.str_ok X G (c.fact 54 rfl)
theorem Txt.len (T : Txt w K mg) : mg "len" = none := by
  obtain ⟨h, X, G, c, _⟩ := T.ex
  exact He.free_ok X G (c.fact 55 rfl)
theorem Txt.abs (T : Txt w K mg) : mg "abs" = none := by
  obtain ⟨h, X, G, c, _⟩ := T.ex
  exact He.free_ok X G (c.fact 56 rfl)
theorem Txt.max (T : Txt w K mg) : mg "max" = none := by
  obtain ⟨h, X, G, c, _⟩ := T.ex
  exact He.free_ok X G (c.fact 57 rfl)
theorem Txt.min (T : Txt w K mg) : mg "min" = none := by
  obtain ⟨h, X, G, c, _⟩ := T.ex
  exact He.free_ok X G (c.fact 58 rfl)
theorem Txt.isinstance (T : Txt w K mg) : mg "isinstance" = none := by
  obtain ⟨h, X, G, c, _⟩ := T.ex
  exact He.free_ok X G (c.fact 59 rfl)
theorem Txt.all (T : Txt w K mg) : mg "all" = none := by
  obtain ⟨h, X, G, c, _⟩ := T.ex
  exact He.free_ok X G (c.fact 60 rfl)
theorem Txt.any (T : Txt w K mg) : mg "any" = none := by
  obtain ⟨h, X, G, c, _⟩ := T.ex
  exact He.free_ok X G (c.fact 61 rfl)
theorem Txt.sorted (T : Txt w K mg) : mg "sorted" = none := by
  obtain ⟨h, X, G, c, _⟩ := T.ex
  exact He.free_ok X G (c.fact 62 rfl)
theorem Txt.zip (T : Txt w K mg) : mg "zip" = none := by
  obtain ⟨h, X, G, c, _⟩ := T.ex
  exact He.free_ok X G (c.fact 63 rfl)
theorem Txt.enumerate (T : Txt w K mg) : mg "enumerate" = none := by
  obtain ⟨h, X, G, c, _⟩ := T.ex
  exact He.free_ok X G (c.fact 64 rfl)
theorem Txt.super (T : Txt w K mg) : mg "super" = none := by
  obtain ⟨h, X, G, c, _⟩ := T.ex
  exact He.free_ok X G (c.fact 65 rfl)
theorem Txt.sum (T : Txt w K mg) : mg "sum" = none := by
  obtain ⟨h, X, G, c, _⟩ := T.ex
  exact He.free_ok X G (c.fact 66 rfl)
theorem Txt.ValueError (T : Txt w K mg) : mg "ValueError" = none := by
  obtain ⟨h, X, G, c, _⟩ := T.ex
  exact He.free_ok X G (c.fact 67 rfl)
theorem Txt.int (T : Txt w K mg) : mg "int" = none := by
  obtain ⟨h, X, G, c, _⟩ := T.ex
  exact He.free_ok X G (c.fact 68 rfl)
theorem Txt.str (T : Txt w K mg) : mg "str" = none := by
  obtain ⟨h, X, G, c, _⟩ := T.ex
  exact He.free_ok X G (c.fact 69 rfl)
theorem Txt.bool (T : Txt w K mg) : mg "bool" = none := by
  obtain ⟨h, X, G, c, _⟩ := T.ex
  exact He.free_ok X G (c.fact 70 rfl)
theorem Txt.list (T : Txt w K mg) : mg "list" = none := by
  obtain ⟨h, X, G, c, _⟩ := T.ex
  exact He.free_ok X G (c.fact 71 rfl)
theorem Txt.tuple (T : Txt w K mg) : mg "tuple" = none := by
  obtain ⟨h, X, G, c, _⟩ := T.ex
  exact He.free_ok X G (c.fact 72 rfl)
theorem Txt.dict (T : Txt w K mg) : mg "dict" = none := by
  obtain ⟨h, X, G, c, _⟩ := T.ex
  exact He.free_ok X G (c.fact 73 rfl)
theorem Txt.set (T : Txt w K mg) : mg "set" = none := by
  obtain ⟨h, X, G, c, _⟩ := T.ex
  exact He.free_ok X G (c.fact 74 rfl)
theorem Txt.range (T : Txt w K mg) : mg "range" = none := by
  obtain ⟨h, X, G, c, _⟩ := T.ex
  exact He.free_ok X G (c.fact 75 rfl)
theorem Txt.cl_Told (T : Txt w K mg) : Cls K (He.ga K "Told") := by
  obtain ⟨h, X, G, c, _⟩ := T.ex
  exact He.cls_ok (c.fact 76 rfl)
theorem Txt.no_Told_letters (T : Txt w K mg) : NoAttr K (He.ga K "Told") "letters" := by
  obtain ⟨h, X, G, c, _⟩ := T.ex
  exact He.noat_ok (c.fact 77 rfl)
theorem Txt.no_Told_opened (T : Txt w K mg) : NoAttr K (He.ga K "Told") "opened" := by
  obtain ⟨h, X, G, c, _⟩ := T.ex
  exact He.noat_ok (c.fact 78 rfl)
theorem Txt.no_Told_got (T : Txt w K mg) : NoAttr K (He.ga K "Told") "got" := by
  obtain ⟨h, X, G, c, _⟩ := T.ex
  exact He.noat_ok (c.fact 79 rfl)
theorem Txt.no_Told_lays (T : Txt w K mg) : NoAttr K (He.ga K "Told") "lays" := by
  obtain ⟨h, X, G, c, _⟩ := T.ex
  exact He.noat_ok (c.fact 80 rfl)
theorem Txt.no_Told_wrongs (T : Txt w K mg) : NoAttr K (He.ga K "Told") "wrongs" := by
  obtain ⟨h, X, G, c, _⟩ := T.ex
  exact He.noat_ok (c.fact 81 rfl)
theorem Txt.no_Told_moments (T : Txt w K mg) : NoAttr K (He.ga K "Told") "moments" := by
  obtain ⟨h, X, G, c, _⟩ := T.ex
  exact He.noat_ok (c.fact 82 rfl)
theorem Txt.m_Told_report (T : Txt w K mg) : Meth K (He.ga K "Told") "report" (He.ma K (He.ga K "Told") "report") := by
  obtain ⟨h, X, G, c, _⟩ := T.ex
  exact He.meth_ok (c.fact 83 rfl)
theorem Txt.mk_Told (T : Txt w K mg) : Mk K (He.ga K "Told") (He.ma K (He.ga K "Told") "__init__") := by
  obtain ⟨h, X, G, c, _⟩ := T.ex
  exact He.mkr_ok (c.fact 84 rfl)
theorem Txt.cl_Box (T : Txt w K mg) : Cls K (He.ga K "Box") := by
  obtain ⟨h, X, G, c, _⟩ := T.ex
  exact He.cls_ok (c.fact 85 rfl)
theorem Txt.no_Box_ajar (T : Txt w K mg) : NoAttr K (He.ga K "Box") "ajar" := by
  obtain ⟨h, X, G, c, _⟩ := T.ex
  exact He.noat_ok (c.fact 86 rfl)
theorem Txt.no_Box_inside (T : Txt w K mg) : NoAttr K (He.ga K "Box") "inside" := by
  obtain ⟨h, X, G, c, _⟩ := T.ex
  exact He.noat_ok (c.fact 87 rfl)
theorem Txt.no_Box_taken_for (T : Txt w K mg) : NoAttr K (He.ga K "Box") "taken_for" := by
  obtain ⟨h, X, G, c, _⟩ := T.ex
  exact He.noat_ok (c.fact 88 rfl)
theorem Txt.no_Box_valid (T : Txt w K mg) : NoAttr K (He.ga K "Box") "valid" := by
  obtain ⟨h, X, G, c, _⟩ := T.ex
  exact He.noat_ok (c.fact 89 rfl)
theorem Txt.no_Box_age (T : Txt w K mg) : NoAttr K (He.ga K "Box") "age" := by
  obtain ⟨h, X, G, c, _⟩ := T.ex
  exact He.noat_ok (c.fact 90 rfl)
theorem Txt.no_Box_last (T : Txt w K mg) : NoAttr K (He.ga K "Box") "last" := by
  obtain ⟨h, X, G, c, _⟩ := T.ex
  exact He.noat_ok (c.fact 91 rfl)
theorem Txt.no_Box_sent (T : Txt w K mg) : NoAttr K (He.ga K "Box") "sent" := by
  obtain ⟨h, X, G, c, _⟩ := T.ex
  exact He.noat_ok (c.fact 92 rfl)
theorem Txt.no_Box_served (T : Txt w K mg) : NoAttr K (He.ga K "Box") "served" := by
  obtain ⟨h, X, G, c, _⟩ := T.ex
  exact He.noat_ok (c.fact 93 rfl)
theorem Txt.m_Box_copied (T : Txt w K mg) : Meth K (He.ga K "Box") "copied" (He.ma K (He.ga K "Box") "copied") := by
  obtain ⟨h, X, G, c, _⟩ := T.ex
  exact He.meth_ok (c.fact 94 rfl)
theorem Txt.m_Box_stands (T : Txt w K mg) : Meth K (He.ga K "Box") "stands" (He.ma K (He.ga K "Box") "stands") := by
  obtain ⟨h, X, G, c, _⟩ := T.ex
  exact He.meth_ok (c.fact 95 rfl)
theorem Txt.m_Box_bring (T : Txt w K mg) : Meth K (He.ga K "Box") "bring" (He.ma K (He.ga K "Box") "bring") := by
  obtain ⟨h, X, G, c, _⟩ := T.ex
  exact He.meth_ok (c.fact 96 rfl)
theorem Txt.m_Box_code (T : Txt w K mg) : Meth K (He.ga K "Box") "code" (He.ma K (He.ga K "Box") "code") := by
  obtain ⟨h, X, G, c, _⟩ := T.ex
  exact He.meth_ok (c.fact 97 rfl)
theorem Txt.m_Box_pass_by (T : Txt w K mg) : Meth K (He.ga K "Box") "pass_by" (He.ma K (He.ga K "Box") "pass_by") := by
  obtain ⟨h, X, G, c, _⟩ := T.ex
  exact He.meth_ok (c.fact 98 rfl)
theorem Txt.m_Box_day (T : Txt w K mg) : Meth K (He.ga K "Box") "day" (He.ma K (He.ga K "Box") "day") := by
  obtain ⟨h, X, G, c, _⟩ := T.ex
  exact He.meth_ok (c.fact 99 rfl)
theorem Txt.m_Box_power (T : Txt w K mg) : Meth K (He.ga K "Box") "power" (He.ma K (He.ga K "Box") "power") := by
  obtain ⟨h, X, G, c, _⟩ := T.ex
  exact He.meth_ok (c.fact 100 rfl)
theorem Txt.m_Box_let_take (T : Txt w K mg) : Meth K (He.ga K "Box") "_let_take" (He.ma K (He.ga K "Box") "_let_take") := by
  obtain ⟨h, X, G, c, _⟩ := T.ex
  exact He.meth_ok (c.fact 101 rfl)
theorem Txt.m_Box_go_away (T : Txt w K mg) : Meth K (He.ga K "Box") "_go_away" (He.ma K (He.ga K "Box") "_go_away") := by
  obtain ⟨h, X, G, c, _⟩ := T.ex
  exact He.meth_ok (c.fact 102 rfl)
theorem Txt.m_Box_carry_out (T : Txt w K mg) : Meth K (He.ga K "Box") "_carry_out" (He.ma K (He.ga K "Box") "_carry_out") := by
  obtain ⟨h, X, G, c, _⟩ := T.ex
  exact He.meth_ok (c.fact 103 rfl)
theorem Txt.m_Box_act (T : Txt w K mg) : Meth K (He.ga K "Box") "_act" (He.ma K (He.ga K "Box") "_act") := by
  obtain ⟨h, X, G, c, _⟩ := T.ex
  exact He.meth_ok (c.fact 104 rfl)
theorem Txt.m_Box_send_code (T : Txt w K mg) : Meth K (He.ga K "Box") "_send_code" (He.ma K (He.ga K "Box") "_send_code") := by
  obtain ⟨h, X, G, c, _⟩ := T.ex
  exact He.meth_ok (c.fact 105 rfl)
theorem Txt.mk_Box (T : Txt w K mg) : Mk K (He.ga K "Box") (He.ma K (He.ga K "Box") "__init__") := by
  obtain ⟨h, X, G, c, _⟩ := T.ex
  exact He.mkr_ok (c.fact 106 rfl)
theorem Txt.cl_Wall (T : Txt w K mg) : Cls K (He.ga K "Wall") := by
  obtain ⟨h, X, G, c, _⟩ := T.ex
  exact He.cls_ok (c.fact 107 rfl)
theorem Txt.no_Wall__book (T : Txt w K mg) : NoAttr K (He.ga K "Wall") "_book" := by
  obtain ⟨h, X, G, c, _⟩ := T.ex
  exact He.noat_ok (c.fact 108 rfl)
theorem Txt.no_Wall__sizes (T : Txt w K mg) : NoAttr K (He.ga K "Wall") "_sizes" := by
  obtain ⟨h, X, G, c, _⟩ := T.ex
  exact He.noat_ok (c.fact 109 rfl)
theorem Txt.no_Wall__boxes (T : Txt w K mg) : NoAttr K (He.ga K "Wall") "_boxes" := by
  obtain ⟨h, X, G, c, _⟩ := T.ex
  exact He.noat_ok (c.fact 110 rfl)
theorem Txt.no_Wall__given (T : Txt w K mg) : NoAttr K (He.ga K "Wall") "_given" := by
  obtain ⟨h, X, G, c, _⟩ := T.ex
  exact He.noat_ok (c.fact 111 rfl)
theorem Txt.no_Wall__past (T : Txt w K mg) : NoAttr K (He.ga K "Wall") "_past" := by
  obtain ⟨h, X, G, c, _⟩ := T.ex
  exact He.noat_ok (c.fact 112 rfl)
theorem Txt.m_Wall__len__ (T : Txt w K mg) : Meth K (He.ga K "Wall") "__len__" (He.ma K (He.ga K "Wall") "__len__") := by
  obtain ⟨h, X, G, c, _⟩ := T.ex
  exact He.meth_ok (c.fact 113 rfl)
theorem Txt.m_Wall__contains__ (T : Txt w K mg) : Meth K (He.ga K "Wall") "__contains__" (He.ma K (He.ga K "Wall") "__contains__") := by
  obtain ⟨h, X, G, c, _⟩ := T.ex
  exact He.meth_ok (c.fact 114 rfl)
theorem Txt.m_Wall_bring (T : Txt w K mg) : Meth K (He.ga K "Wall") "bring" (He.ma K (He.ga K "Wall") "bring") := by
  obtain ⟨h, X, G, c, _⟩ := T.ex
  exact He.meth_ok (c.fact 115 rfl)
theorem Txt.m_Wall_code (T : Txt w K mg) : Meth K (He.ga K "Wall") "code" (He.ma K (He.ga K "Wall") "code") := by
  obtain ⟨h, X, G, c, _⟩ := T.ex
  exact He.meth_ok (c.fact 116 rfl)
theorem Txt.m_Wall_pass_by (T : Txt w K mg) : Meth K (He.ga K "Wall") "pass_by" (He.ma K (He.ga K "Wall") "pass_by") := by
  obtain ⟨h, X, G, c, _⟩ := T.ex
  exact He.meth_ok (c.fact 117 rfl)
theorem Txt.m_Wall_day (T : Txt w K mg) : Meth K (He.ga K "Wall") "day" (He.ma K (He.ga K "Wall") "day") := by
  obtain ⟨h, X, G, c, _⟩ := T.ex
  exact He.meth_ok (c.fact 118 rfl)
theorem Txt.m_Wall_power (T : Txt w K mg) : Meth K (He.ga K "Wall") "power" (He.ma K (He.ga K "Wall") "power") := by
  obtain ⟨h, X, G, c, _⟩ := T.ex
  exact He.meth_ok (c.fact 119 rfl)
theorem Txt.m_Wall_box (T : Txt w K mg) : Meth K (He.ga K "Wall") "box" (He.ma K (He.ga K "Wall") "box") := by
  obtain ⟨h, X, G, c, _⟩ := T.ex
  exact He.meth_ok (c.fact 120 rfl)
theorem Txt.m_Wall_change (T : Txt w K mg) : Meth K (He.ga K "Wall") "change" (He.ma K (He.ga K "Wall") "change") := by
  obtain ⟨h, X, G, c, _⟩ := T.ex
  exact He.meth_ok (c.fact 121 rfl)
theorem Txt.m_Wall_undo (T : Txt w K mg) : Meth K (He.ga K "Wall") "undo" (He.ma K (He.ga K "Wall") "undo") := by
  obtain ⟨h, X, G, c, _⟩ := T.ex
  exact He.meth_ok (c.fact 122 rfl)
theorem Txt.m_Wall_was_brought (T : Txt w K mg) : Meth K (He.ga K "Wall") "_was_brought" (He.ma K (He.ga K "Wall") "_was_brought") := by
  obtain ⟨h, X, G, c, _⟩ := T.ex
  exact He.meth_ok (c.fact 123 rfl)
theorem Txt.m_Wall_check_box (T : Txt w K mg) : Meth K (He.ga K "Wall") "_check_box" (He.ma K (He.ga K "Wall") "_check_box") := by
  obtain ⟨h, X, G, c, _⟩ := T.ex
  exact He.meth_ok (c.fact 124 rfl)
theorem Txt.m_Wall_remember (T : Txt w K mg) : Meth K (He.ga K "Wall") "_remember" (He.ma K (He.ga K "Wall") "_remember") := by
  obtain ⟨h, X, G, c, _⟩ := T.ex
  exact He.meth_ok (c.fact 125 rfl)
theorem Txt.m_Wall_fitting (T : Txt w K mg) : Meth K (He.ga K "Wall") "_fitting" (He.ma K (He.ga K "Wall") "_fitting") := by
  obtain ⟨h, X, G, c, _⟩ := T.ex
  exact He.meth_ok (c.fact 126 rfl)
theorem Txt.mk_Wall (T : Txt w K mg) : Mk K (He.ga K "Wall") (He.ma K (He.ga K "Wall") "__init__") := by
  obtain ⟨h, X, G, c, _⟩ := T.ex
  exact He.mkr_ok (c.fact 127 rfl)
theorem Txt.cl_Book (T : Txt w K mg) : Cls K (He.ga K "Book") := by
  obtain ⟨h, X, G, c, _⟩ := T.ex
  exact He.cls_ok (c.fact 128 rfl)
theorem Txt.no_Book__days (T : Txt w K mg) : NoAttr K (He.ga K "Book") "_days" := by
  obtain ⟨h, X, G, c, _⟩ := T.ex
  exact He.noat_ok (c.fact 129 rfl)
theorem Txt.no_Book__rules (T : Txt w K mg) : NoAttr K (He.ga K "Book") "_rules" := by
  obtain ⟨h, X, G, c, _⟩ := T.ex
  exact He.noat_ok (c.fact 130 rfl)
theorem Txt.m_Book_eq (T : Txt w K mg) : Meth K (He.ga K "Book") "__eq__" (He.ma K (He.ga K "Book") "__eq__") := by
  obtain ⟨h, X, G, c, _⟩ := T.ex
  exact He.meth_ok (c.fact 131 rfl)
theorem Txt.m_Book_days (T : Txt w K mg) : Meth K (He.ga K "Book") "days" (He.ma K (He.ga K "Book") "days") := by
  obtain ⟨h, X, G, c, _⟩ := T.ex
  exact He.meth_ok (c.fact 132 rfl)
theorem Txt.m_Book_rule (T : Txt w K mg) : Meth K (He.ga K "Book") "rule" (He.ma K (He.ga K "Book") "rule") := by
  obtain ⟨h, X, G, c, _⟩ := T.ex
  exact He.meth_ok (c.fact 133 rfl)
theorem Txt.m_Book_rules (T : Txt w K mg) : Meth K (He.ga K "Book") "rules" (He.ma K (He.ga K "Book") "rules") := by
  obtain ⟨h, X, G, c, _⟩ := T.ex
  exact He.meth_ok (c.fact 134 rfl)
theorem Txt.m_Book_with_rule (T : Txt w K mg) : Meth K (He.ga K "Book") "with_rule" (He.ma K (He.ga K "Book") "with_rule") := by
  obtain ⟨h, X, G, c, _⟩ := T.ex
  exact He.meth_ok (c.fact 135 rfl)
theorem Txt.m_Book_with_days (T : Txt w K mg) : Meth K (He.ga K "Book") "with_days" (He.ma K (He.ga K "Book") "with_days") := by
  obtain ⟨h, X, G, c, _⟩ := T.ex
  exact He.meth_ok (c.fact 136 rfl)
theorem Txt.m_Book_taking (T : Txt w K mg) : Meth K (He.ga K "Book") "taking" (He.ma K (He.ga K "Book") "taking") := by
  obtain ⟨h, X, G, c, _⟩ := T.ex
  exact He.meth_ok (c.fact 137 rfl)
theorem Txt.mk_Book (T : Txt w K mg) : Mk K (He.ga K "Book") (He.ma K (He.ga K "Book") "__init__") := by
  obtain ⟨h, X, G, c, _⟩ := T.ex
  exact He.mkr_ok (c.fact 138 rfl)
theorem Txt.tup_ACTIONS (T : Txt w K mg) : ∀ H, SqT K H (He.ga K "ACTIONS") [.str "free", .str "full", .str "off", .str "code", .str "void", .str "look", .str "lock"] := by
  obtain ⟨h, X, G, c, e⟩ := T.ex
  exact fun H => My.tupAt_ok (My.all_ix e 0 rfl) H
theorem Txt.ty_ACTIONS (T : Txt w K mg) : ∀ H, tyV K "tuple" (.ref (He.ga K "ACTIONS")) H := by
  obtain ⟨h, X, G, c, e⟩ := T.ex
  exact fun H => My.tupAt_ty (My.all_ix e 0 rfl) H
theorem Txt.tup_MOMENTS (T : Txt w K mg) : ∀ H, SqT K H (He.ga K "MOMENTS") [.str "given", .str "laid", .str "left", .str "opened", .str "taken", .str "gone", .str "late", .str "power"] := by
  obtain ⟨h, X, G, c, e⟩ := T.ex
  exact fun H => My.tupAt_ok (My.all_ix e 1 rfl) H
theorem Txt.ty_MOMENTS (T : Txt w K mg) : ∀ H, tyV K "tuple" (.ref (He.ga K "MOMENTS")) H := by
  obtain ⟨h, X, G, c, e⟩ := T.ex
  exact fun H => My.tupAt_ty (My.all_ix e 1 rfl) H
theorem Txt.dfl_Book_init_0 (T : Txt w K mg) : ∀ H, SqT K H (He.dflAt ("Book", some "__init__") 0 K) [] := by
  obtain ⟨h, X, G, c, e⟩ := T.ex
  exact fun H => My.tupAt_ok (My.all_ix e 2 rfl) H
theorem Txt.dfl_Book_init_1 (T : Txt w K mg) : ∀ H, SqT K H (He.dflAt ("Book", some "__init__") 1 K) [] := by
  obtain ⟨h, X, G, c, e⟩ := T.ex
  exact fun H => My.tupAt_ok (My.all_ix e 3 rfl) H
theorem Txt.dfl_Book_init_2 (T : Txt w K mg) : ∀ H, SqT K H (He.dflAt ("Book", some "__init__") 2 K) [] := by
  obtain ⟨h, X, G, c, e⟩ := T.ex
  exact fun H => My.tupAt_ok (My.all_ix e 4 rfl) H
theorem Txt.dfl_Book_init_3 (T : Txt w K mg) : ∀ H, SqT K H (He.dflAt ("Book", some "__init__") 3 K) [] := by
  obtain ⟨h, X, G, c, e⟩ := T.ex
  exact fun H => My.tupAt_ok (My.all_ix e 5 rfl) H
theorem Txt.dfl_Book_init_4 (T : Txt w K mg) : ∀ H, SqT K H (He.dflAt ("Book", some "__init__") 4 K) [] := by
  obtain ⟨h, X, G, c, e⟩ := T.ex
  exact fun H => My.tupAt_ok (My.all_ix e 6 rfl) H
theorem Txt.dfl_Book_init_5 (T : Txt w K mg) : ∀ H, SqT K H (He.dflAt ("Book", some "__init__") 5 K) [] := by
  obtain ⟨h, X, G, c, e⟩ := T.ex
  exact fun H => My.tupAt_ok (My.all_ix e 7 rfl) H
theorem Txt.dfl_Book_init_6 (T : Txt w K mg) : ∀ H, SqT K H (He.dflAt ("Book", some "__init__") 6 K) [] := by
  obtain ⟨h, X, G, c, e⟩ := T.ex
  exact fun H => My.tupAt_ok (My.all_ix e 8 rfl) H
theorem Txt.dfl_Book_init_7 (T : Txt w K mg) : ∀ H, SqT K H (He.dflAt ("Book", some "__init__") 7 K) [] := by
  obtain ⟨h, X, G, c, e⟩ := T.ex
  exact fun H => My.tupAt_ok (My.all_ix e 9 rfl) H
theorem Txt.insB_Book (T : Txt w K mg) : My.insB K (He.ga K "Book") = true := by
  obtain ⟨h, X, G, c, e⟩ := T.ex
  exact My.all_ix e 10 rfl
theorem Txt.f_Told_init (T : Txt w K mg) : ∃ fd, FunD K d_Told_init.name d_Told_init.qual d_Told_init.params d_Told_init.body d_Told_init.scope (d_Told_init.dvs K) (d_Told_init.kws K) (He.fAd K d_Told_init.at_) fd := by
  obtain ⟨h, X, G, c, e⟩ := T.ex
  exact c.def_ 0 rfl
theorem Txt.f_Told_report (T : Txt w K mg) : ∃ fd, FunD K d_Told_report.name d_Told_report.qual d_Told_report.params d_Told_report.body d_Told_report.scope (d_Told_report.dvs K) (d_Told_report.kws K) (He.fAd K d_Told_report.at_) fd := by
  obtain ⟨h, X, G, c, e⟩ := T.ex
  exact c.def_ 1 rfl
theorem Txt.f_Box_init (T : Txt w K mg) : ∃ fd, FunD K d_Box_init.name d_Box_init.qual d_Box_init.params d_Box_init.body d_Box_init.scope (d_Box_init.dvs K) (d_Box_init.kws K) (He.fAd K d_Box_init.at_) fd := by
  obtain ⟨h, X, G, c, e⟩ := T.ex
  exact c.def_ 2 rfl
theorem Txt.f_Box_copied (T : Txt w K mg) : ∃ fd, FunD K d_Box_copied.name d_Box_copied.qual d_Box_copied.params d_Box_copied.body d_Box_copied.scope (d_Box_copied.dvs K) (d_Box_copied.kws K) (He.fAd K d_Box_copied.at_) fd := by
  obtain ⟨h, X, G, c, e⟩ := T.ex
  exact c.def_ 3 rfl
theorem Txt.f_Box_stands (T : Txt w K mg) : ∃ fd, FunD K d_Box_stands.name d_Box_stands.qual d_Box_stands.params d_Box_stands.body d_Box_stands.scope (d_Box_stands.dvs K) (d_Box_stands.kws K) (He.fAd K d_Box_stands.at_) fd := by
  obtain ⟨h, X, G, c, e⟩ := T.ex
  exact c.def_ 4 rfl
theorem Txt.f_Box_bring (T : Txt w K mg) : ∃ fd, FunD K d_Box_bring.name d_Box_bring.qual d_Box_bring.params d_Box_bring.body d_Box_bring.scope (d_Box_bring.dvs K) (d_Box_bring.kws K) (He.fAd K d_Box_bring.at_) fd := by
  obtain ⟨h, X, G, c, e⟩ := T.ex
  exact c.def_ 5 rfl
theorem Txt.f_Box_code (T : Txt w K mg) : ∃ fd, FunD K d_Box_code.name d_Box_code.qual d_Box_code.params d_Box_code.body d_Box_code.scope (d_Box_code.dvs K) (d_Box_code.kws K) (He.fAd K d_Box_code.at_) fd := by
  obtain ⟨h, X, G, c, e⟩ := T.ex
  exact c.def_ 6 rfl
theorem Txt.f_Box_pass_by (T : Txt w K mg) : ∃ fd, FunD K d_Box_pass_by.name d_Box_pass_by.qual d_Box_pass_by.params d_Box_pass_by.body d_Box_pass_by.scope (d_Box_pass_by.dvs K) (d_Box_pass_by.kws K) (He.fAd K d_Box_pass_by.at_) fd := by
  obtain ⟨h, X, G, c, e⟩ := T.ex
  exact c.def_ 7 rfl
theorem Txt.f_Box_day (T : Txt w K mg) : ∃ fd, FunD K d_Box_day.name d_Box_day.qual d_Box_day.params d_Box_day.body d_Box_day.scope (d_Box_day.dvs K) (d_Box_day.kws K) (He.fAd K d_Box_day.at_) fd := by
  obtain ⟨h, X, G, c, e⟩ := T.ex
  exact c.def_ 8 rfl
theorem Txt.f_Box_power (T : Txt w K mg) : ∃ fd, FunD K d_Box_power.name d_Box_power.qual d_Box_power.params d_Box_power.body d_Box_power.scope (d_Box_power.dvs K) (d_Box_power.kws K) (He.fAd K d_Box_power.at_) fd := by
  obtain ⟨h, X, G, c, e⟩ := T.ex
  exact c.def_ 9 rfl
theorem Txt.f_Box_let_take (T : Txt w K mg) : ∃ fd, FunD K d_Box_let_take.name d_Box_let_take.qual d_Box_let_take.params d_Box_let_take.body d_Box_let_take.scope (d_Box_let_take.dvs K) (d_Box_let_take.kws K) (He.fAd K d_Box_let_take.at_) fd := by
  obtain ⟨h, X, G, c, e⟩ := T.ex
  exact c.def_ 10 rfl
theorem Txt.f_Box_go_away (T : Txt w K mg) : ∃ fd, FunD K d_Box_go_away.name d_Box_go_away.qual d_Box_go_away.params d_Box_go_away.body d_Box_go_away.scope (d_Box_go_away.dvs K) (d_Box_go_away.kws K) (He.fAd K d_Box_go_away.at_) fd := by
  obtain ⟨h, X, G, c, e⟩ := T.ex
  exact c.def_ 11 rfl
theorem Txt.f_Box_carry_out (T : Txt w K mg) : ∃ fd, FunD K d_Box_carry_out.name d_Box_carry_out.qual d_Box_carry_out.params d_Box_carry_out.body d_Box_carry_out.scope (d_Box_carry_out.dvs K) (d_Box_carry_out.kws K) (He.fAd K d_Box_carry_out.at_) fd := by
  obtain ⟨h, X, G, c, e⟩ := T.ex
  exact c.def_ 12 rfl
theorem Txt.f_Box_act (T : Txt w K mg) : ∃ fd, FunD K d_Box_act.name d_Box_act.qual d_Box_act.params d_Box_act.body d_Box_act.scope (d_Box_act.dvs K) (d_Box_act.kws K) (He.fAd K d_Box_act.at_) fd := by
  obtain ⟨h, X, G, c, e⟩ := T.ex
  exact c.def_ 13 rfl
theorem Txt.f_Box_send_code (T : Txt w K mg) : ∃ fd, FunD K d_Box_send_code.name d_Box_send_code.qual d_Box_send_code.params d_Box_send_code.body d_Box_send_code.scope (d_Box_send_code.dvs K) (d_Box_send_code.kws K) (He.fAd K d_Box_send_code.at_) fd := by
  obtain ⟨h, X, G, c, e⟩ := T.ex
  exact c.def_ 14 rfl
theorem Txt.f_is_integer_within (T : Txt w K mg) : ∃ fd, FunD K d_is_integer_within.name d_is_integer_within.qual d_is_integer_within.params d_is_integer_within.body d_is_integer_within.scope (d_is_integer_within.dvs K) (d_is_integer_within.kws K) (He.fAd K d_is_integer_within.at_) fd := by
  obtain ⟨h, X, G, c, e⟩ := T.ex
  exact c.def_ 15 rfl
theorem Txt.f_is_truth (T : Txt w K mg) : ∃ fd, FunD K d_is_truth.name d_is_truth.qual d_is_truth.params d_is_truth.body d_is_truth.scope (d_is_truth.dvs K) (d_is_truth.kws K) (He.fAd K d_is_truth.at_) fd := by
  obtain ⟨h, X, G, c, e⟩ := T.ex
  exact c.def_ 16 rfl
theorem Txt.f_is_word (T : Txt w K mg) : ∃ fd, FunD K d_is_word.name d_is_word.qual d_is_word.params d_is_word.body d_is_word.scope (d_is_word.dvs K) (d_is_word.kws K) (He.fAd K d_is_word.at_) fd := by
  obtain ⟨h, X, G, c, e⟩ := T.ex
  exact c.def_ 17 rfl
theorem Txt.f_are_distinct_words (T : Txt w K mg) : ∃ fd, FunD K d_are_distinct_words.name d_are_distinct_words.qual d_are_distinct_words.params d_are_distinct_words.body d_are_distinct_words.scope (d_are_distinct_words.dvs K) (d_are_distinct_words.kws K) (He.fAd K d_are_distinct_words.at_) fd := by
  obtain ⟨h, X, G, c, e⟩ := T.ex
  exact c.def_ 18 rfl
theorem Txt.f_are_truths (T : Txt w K mg) : ∃ fd, FunD K d_are_truths.name d_are_truths.qual d_are_truths.params d_are_truths.body d_are_truths.scope (d_are_truths.dvs K) (d_are_truths.kws K) (He.fAd K d_are_truths.at_) fd := by
  obtain ⟨h, X, G, c, e⟩ := T.ex
  exact c.def_ 19 rfl
theorem Txt.f_is_size (T : Txt w K mg) : ∃ fd, FunD K d_is_size.name d_is_size.qual d_is_size.params d_is_size.body d_is_size.scope (d_is_size.dvs K) (d_is_size.kws K) (He.fAd K d_is_size.at_) fd := by
  obtain ⟨h, X, G, c, e⟩ := T.ex
  exact c.def_ 20 rfl
theorem Txt.f_are_sizes (T : Txt w K mg) : ∃ fd, FunD K d_are_sizes.name d_are_sizes.qual d_are_sizes.params d_are_sizes.body d_are_sizes.scope (d_are_sizes.dvs K) (d_are_sizes.kws K) (He.fAd K d_are_sizes.at_) fd := by
  obtain ⟨h, X, G, c, e⟩ := T.ex
  exact c.def_ 21 rfl
theorem Txt.f_check_truths (T : Txt w K mg) : ∃ fd, FunD K d_check_truths.name d_check_truths.qual d_check_truths.params d_check_truths.body d_check_truths.scope (d_check_truths.dvs K) (d_check_truths.kws K) (He.fAd K d_check_truths.at_) fd := by
  obtain ⟨h, X, G, c, e⟩ := T.ex
  exact c.def_ 22 rfl
theorem Txt.f_Wall_init (T : Txt w K mg) : ∃ fd, FunD K d_Wall_init.name d_Wall_init.qual d_Wall_init.params d_Wall_init.body d_Wall_init.scope (d_Wall_init.dvs K) (d_Wall_init.kws K) (He.fAd K d_Wall_init.at_) fd := by
  obtain ⟨h, X, G, c, e⟩ := T.ex
  exact c.def_ 23 rfl
theorem Txt.f_Wall__len__ (T : Txt w K mg) : ∃ fd, FunD K d_Wall__len__.name d_Wall__len__.qual d_Wall__len__.params d_Wall__len__.body d_Wall__len__.scope (d_Wall__len__.dvs K) (d_Wall__len__.kws K) (He.fAd K d_Wall__len__.at_) fd := by
  obtain ⟨h, X, G, c, e⟩ := T.ex
  exact c.def_ 24 rfl
theorem Txt.f_Wall__contains__ (T : Txt w K mg) : ∃ fd, FunD K d_Wall__contains__.name d_Wall__contains__.qual d_Wall__contains__.params d_Wall__contains__.body d_Wall__contains__.scope (d_Wall__contains__.dvs K) (d_Wall__contains__.kws K) (He.fAd K d_Wall__contains__.at_) fd := by
  obtain ⟨h, X, G, c, e⟩ := T.ex
  exact c.def_ 25 rfl
theorem Txt.f_Wall_bring (T : Txt w K mg) : ∃ fd, FunD K d_Wall_bring.name d_Wall_bring.qual d_Wall_bring.params d_Wall_bring.body d_Wall_bring.scope (d_Wall_bring.dvs K) (d_Wall_bring.kws K) (He.fAd K d_Wall_bring.at_) fd := by
  obtain ⟨h, X, G, c, e⟩ := T.ex
  exact c.def_ 26 rfl
theorem Txt.f_Wall_code (T : Txt w K mg) : ∃ fd, FunD K d_Wall_code.name d_Wall_code.qual d_Wall_code.params d_Wall_code.body d_Wall_code.scope (d_Wall_code.dvs K) (d_Wall_code.kws K) (He.fAd K d_Wall_code.at_) fd := by
  obtain ⟨h, X, G, c, e⟩ := T.ex
  exact c.def_ 27 rfl
theorem Txt.f_Wall_pass_by (T : Txt w K mg) : ∃ fd, FunD K d_Wall_pass_by.name d_Wall_pass_by.qual d_Wall_pass_by.params d_Wall_pass_by.body d_Wall_pass_by.scope (d_Wall_pass_by.dvs K) (d_Wall_pass_by.kws K) (He.fAd K d_Wall_pass_by.at_) fd := by
  obtain ⟨h, X, G, c, e⟩ := T.ex
  exact c.def_ 28 rfl
theorem Txt.f_Wall_day (T : Txt w K mg) : ∃ fd, FunD K d_Wall_day.name d_Wall_day.qual d_Wall_day.params d_Wall_day.body d_Wall_day.scope (d_Wall_day.dvs K) (d_Wall_day.kws K) (He.fAd K d_Wall_day.at_) fd := by
  obtain ⟨h, X, G, c, e⟩ := T.ex
  exact c.def_ 29 rfl
theorem Txt.f_Wall_power (T : Txt w K mg) : ∃ fd, FunD K d_Wall_power.name d_Wall_power.qual d_Wall_power.params d_Wall_power.body d_Wall_power.scope (d_Wall_power.dvs K) (d_Wall_power.kws K) (He.fAd K d_Wall_power.at_) fd := by
  obtain ⟨h, X, G, c, e⟩ := T.ex
  exact c.def_ 30 rfl
theorem Txt.f_Wall_box (T : Txt w K mg) : ∃ fd, FunD K d_Wall_box.name d_Wall_box.qual d_Wall_box.params d_Wall_box.body d_Wall_box.scope (d_Wall_box.dvs K) (d_Wall_box.kws K) (He.fAd K d_Wall_box.at_) fd := by
  obtain ⟨h, X, G, c, e⟩ := T.ex
  exact c.def_ 31 rfl
theorem Txt.f_Wall_change (T : Txt w K mg) : ∃ fd, FunD K d_Wall_change.name d_Wall_change.qual d_Wall_change.params d_Wall_change.body d_Wall_change.scope (d_Wall_change.dvs K) (d_Wall_change.kws K) (He.fAd K d_Wall_change.at_) fd := by
  obtain ⟨h, X, G, c, e⟩ := T.ex
  exact c.def_ 32 rfl
theorem Txt.f_Wall_undo (T : Txt w K mg) : ∃ fd, FunD K d_Wall_undo.name d_Wall_undo.qual d_Wall_undo.params d_Wall_undo.body d_Wall_undo.scope (d_Wall_undo.dvs K) (d_Wall_undo.kws K) (He.fAd K d_Wall_undo.at_) fd := by
  obtain ⟨h, X, G, c, e⟩ := T.ex
  exact c.def_ 33 rfl
theorem Txt.f_Wall_was_brought (T : Txt w K mg) : ∃ fd, FunD K d_Wall_was_brought.name d_Wall_was_brought.qual d_Wall_was_brought.params d_Wall_was_brought.body d_Wall_was_brought.scope (d_Wall_was_brought.dvs K) (d_Wall_was_brought.kws K) (He.fAd K d_Wall_was_brought.at_) fd := by
  obtain ⟨h, X, G, c, e⟩ := T.ex
  exact c.def_ 34 rfl
theorem Txt.f_Wall_check_box (T : Txt w K mg) : ∃ fd, FunD K d_Wall_check_box.name d_Wall_check_box.qual d_Wall_check_box.params d_Wall_check_box.body d_Wall_check_box.scope (d_Wall_check_box.dvs K) (d_Wall_check_box.kws K) (He.fAd K d_Wall_check_box.at_) fd := by
  obtain ⟨h, X, G, c, e⟩ := T.ex
  exact c.def_ 35 rfl
theorem Txt.f_Wall_remember (T : Txt w K mg) : ∃ fd, FunD K d_Wall_remember.name d_Wall_remember.qual d_Wall_remember.params d_Wall_remember.body d_Wall_remember.scope (d_Wall_remember.dvs K) (d_Wall_remember.kws K) (He.fAd K d_Wall_remember.at_) fd := by
  obtain ⟨h, X, G, c, e⟩ := T.ex
  exact c.def_ 36 rfl
theorem Txt.f_Wall_fitting (T : Txt w K mg) : ∃ fd, FunD K d_Wall_fitting.name d_Wall_fitting.qual d_Wall_fitting.params d_Wall_fitting.body d_Wall_fitting.scope (d_Wall_fitting.dvs K) (d_Wall_fitting.kws K) (He.fAd K d_Wall_fitting.at_) fd := by
  obtain ⟨h, X, G, c, e⟩ := T.ex
  exact c.def_ 37 rfl
theorem Txt.f_is_rule (T : Txt w K mg) : ∃ fd, FunD K d_is_rule.name d_is_rule.qual d_is_rule.params d_is_rule.body d_is_rule.scope (d_is_rule.dvs K) (d_is_rule.kws K) (He.fAd K d_is_rule.at_) fd := by
  obtain ⟨h, X, G, c, e⟩ := T.ex
  exact c.def_ 38 rfl
theorem Txt.f_Book_init (T : Txt w K mg) : ∃ fd, FunD K d_Book_init.name d_Book_init.qual d_Book_init.params d_Book_init.body d_Book_init.scope (d_Book_init.dvs K) (d_Book_init.kws K) (He.fAd K d_Book_init.at_) fd := by
  obtain ⟨h, X, G, c, e⟩ := T.ex
  exact c.def_ 39 rfl
theorem Txt.f_Book_eq (T : Txt w K mg) : ∃ fd, FunD K d_Book_eq.name d_Book_eq.qual d_Book_eq.params d_Book_eq.body d_Book_eq.scope (d_Book_eq.dvs K) (d_Book_eq.kws K) (He.fAd K d_Book_eq.at_) fd := by
  obtain ⟨h, X, G, c, e⟩ := T.ex
  exact c.def_ 40 rfl
theorem Txt.f_Book_days (T : Txt w K mg) : ∃ fd, FunD K d_Book_days.name d_Book_days.qual d_Book_days.params d_Book_days.body d_Book_days.scope (d_Book_days.dvs K) (d_Book_days.kws K) (He.fAd K d_Book_days.at_) fd := by
  obtain ⟨h, X, G, c, e⟩ := T.ex
  exact c.def_ 41 rfl
theorem Txt.f_Book_rule (T : Txt w K mg) : ∃ fd, FunD K d_Book_rule.name d_Book_rule.qual d_Book_rule.params d_Book_rule.body d_Book_rule.scope (d_Book_rule.dvs K) (d_Book_rule.kws K) (He.fAd K d_Book_rule.at_) fd := by
  obtain ⟨h, X, G, c, e⟩ := T.ex
  exact c.def_ 42 rfl
theorem Txt.f_Book_rules (T : Txt w K mg) : ∃ fd, FunD K d_Book_rules.name d_Book_rules.qual d_Book_rules.params d_Book_rules.body d_Book_rules.scope (d_Book_rules.dvs K) (d_Book_rules.kws K) (He.fAd K d_Book_rules.at_) fd := by
  obtain ⟨h, X, G, c, e⟩ := T.ex
  exact c.def_ 43 rfl
theorem Txt.f_Book_with_rule (T : Txt w K mg) : ∃ fd, FunD K d_Book_with_rule.name d_Book_with_rule.qual d_Book_with_rule.params d_Book_with_rule.body d_Book_with_rule.scope (d_Book_with_rule.dvs K) (d_Book_with_rule.kws K) (He.fAd K d_Book_with_rule.at_) fd := by
  obtain ⟨h, X, G, c, e⟩ := T.ex
  exact c.def_ 44 rfl
theorem Txt.f_Book_with_days (T : Txt w K mg) : ∃ fd, FunD K d_Book_with_days.name d_Book_with_days.qual d_Book_with_days.params d_Book_with_days.body d_Book_with_days.scope (d_Book_with_days.dvs K) (d_Book_with_days.kws K) (He.fAd K d_Book_with_days.at_) fd := by
  obtain ⟨h, X, G, c, e⟩ := T.ex
  exact c.def_ 45 rfl
theorem Txt.f_Book_taking (T : Txt w K mg) : ∃ fd, FunD K d_Book_taking.name d_Book_taking.qual d_Book_taking.params d_Book_taking.body d_Book_taking.scope (d_Book_taking.dvs K) (d_Book_taking.kws K) (He.fAd K d_Book_taking.at_) fd := by
  obtain ⟨h, X, G, c, e⟩ := T.ex
  exact c.def_ 46 rfl
theorem Txt.f_book_text (T : Txt w K mg) : ∃ fd, FunD K d_book_text.name d_book_text.qual d_book_text.params d_book_text.body d_book_text.scope (d_book_text.dvs K) (d_book_text.kws K) (He.fAd K d_book_text.at_) fd := by
  obtain ⟨h, X, G, c, e⟩ := T.ex
  exact c.def_ 47 rfl
theorem Txt.f_read_book (T : Txt w K mg) : ∃ fd, FunD K d_read_book.name d_read_book.qual d_read_book.params d_read_book.body d_read_book.scope (d_read_book.dvs K) (d_read_book.kws K) (He.fAd K d_read_book.at_) fd := by
  obtain ⟨h, X, G, c, e⟩ := T.ex
  exact c.def_ 48 rfl
theorem Txt.f_lines_of (T : Txt w K mg) : ∃ fd, FunD K d_lines_of.name d_lines_of.qual d_lines_of.params d_lines_of.body d_lines_of.scope (d_lines_of.dvs K) (d_lines_of.kws K) (He.fAd K d_lines_of.at_) fd := by
  obtain ⟨h, X, G, c, e⟩ := T.ex
  exact c.def_ 49 rfl
theorem Txt.f_read_number (T : Txt w K mg) : ∃ fd, FunD K d_read_number.name d_read_number.qual d_read_number.params d_read_number.body d_read_number.scope (d_read_number.dvs K) (d_read_number.kws K) (He.fAd K d_read_number.at_) fd := by
  obtain ⟨h, X, G, c, e⟩ := T.ex
  exact c.def_ 50 rfl
theorem Txt.f_read_days (T : Txt w K mg) : ∃ fd, FunD K d_read_days.name d_read_days.qual d_read_days.params d_read_days.body d_read_days.scope (d_read_days.dvs K) (d_read_days.kws K) (He.fAd K d_read_days.at_) fd := by
  obtain ⟨h, X, G, c, e⟩ := T.ex
  exact c.def_ 51 rfl
theorem Txt.f_read_rule (T : Txt w K mg) : ∃ fd, FunD K d_read_rule.name d_read_rule.qual d_read_rule.params d_read_rule.body d_read_rule.scope (d_read_rule.dvs K) (d_read_rule.kws K) (He.fAd K d_read_rule.at_) fd := by
  obtain ⟨h, X, G, c, e⟩ := T.ex
  exact c.def_ 52 rfl
theorem Txt.f_law_well (T : Txt w K mg) : ∃ fd, FunD K d_law_well.name d_law_well.qual d_law_well.params d_law_well.body d_law_well.scope (d_law_well.dvs K) (d_law_well.kws K) (He.fAd K d_law_well.at_) fd := by
  obtain ⟨h, X, G, c, e⟩ := T.ex
  exact c.def_ 53 rfl
theorem Txt.f_law_draw (T : Txt w K mg) : ∃ fd, FunD K d_law_draw.name d_law_draw.qual d_law_draw.params d_law_draw.body d_law_draw.scope (d_law_draw.dvs K) (d_law_draw.kws K) (He.fAd K d_law_draw.at_) fd := by
  obtain ⟨h, X, G, c, e⟩ := T.ex
  exact c.def_ 54 rfl
theorem Txt.f_law_pick (T : Txt w K mg) : ∃ fd, FunD K d_law_pick.name d_law_pick.qual d_law_pick.params d_law_pick.body d_law_pick.scope (d_law_pick.dvs K) (d_law_pick.kws K) (He.fAd K d_law_pick.at_) fd := by
  obtain ⟨h, X, G, c, e⟩ := T.ex
  exact c.def_ 55 rfl
theorem Txt.f_law_any_rule (T : Txt w K mg) : ∃ fd, FunD K d_law_any_rule.name d_law_any_rule.qual d_law_any_rule.params d_law_any_rule.body d_law_any_rule.scope (d_law_any_rule.dvs K) (d_law_any_rule.kws K) (He.fAd K d_law_any_rule.at_) fd := by
  obtain ⟨h, X, G, c, e⟩ := T.ex
  exact c.def_ 56 rfl
theorem Txt.f_law_rules (T : Txt w K mg) : ∃ fd, FunD K d_law_rules.name d_law_rules.qual d_law_rules.params d_law_rules.body d_law_rules.scope (d_law_rules.dvs K) (d_law_rules.kws K) (He.fAd K d_law_rules.at_) fd := by
  obtain ⟨h, X, G, c, e⟩ := T.ex
  exact c.def_ 57 rfl
theorem Txt.f_law_number (T : Txt w K mg) : ∃ fd, FunD K d_law_number.name d_law_number.qual d_law_number.params d_law_number.body d_law_number.scope (d_law_number.dvs K) (d_law_number.kws K) (He.fAd K d_law_number.at_) fd := by
  obtain ⟨h, X, G, c, e⟩ := T.ex
  exact c.def_ 58 rfl
theorem Txt.f_law_sizes (T : Txt w K mg) : ∃ fd, FunD K d_law_sizes.name d_law_sizes.qual d_law_sizes.params d_law_sizes.body d_law_sizes.scope (d_law_sizes.dvs K) (d_law_sizes.kws K) (He.fAd K d_law_sizes.at_) fd := by
  obtain ⟨h, X, G, c, e⟩ := T.ex
  exact c.def_ 59 rfl
theorem Txt.f_law_plain (T : Txt w K mg) : ∃ fd, FunD K d_law_plain.name d_law_plain.qual d_law_plain.params d_law_plain.body d_law_plain.scope (d_law_plain.dvs K) (d_law_plain.kws K) (He.fAd K d_law_plain.at_) fd := by
  obtain ⟨h, X, G, c, e⟩ := T.ex
  exact c.def_ 60 rfl
theorem Txt.f_law_book (T : Txt w K mg) : ∃ fd, FunD K d_law_book.name d_law_book.qual d_law_book.params d_law_book.body d_law_book.scope (d_law_book.dvs K) (d_law_book.kws K) (He.fAd K d_law_book.at_) fd := by
  obtain ⟨h, X, G, c, e⟩ := T.ex
  exact c.def_ 61 rfl
theorem Txt.f_law_made (T : Txt w K mg) : ∃ fd, FunD K d_law_made.name d_law_made.qual d_law_made.params d_law_made.body d_law_made.scope (d_law_made.dvs K) (d_law_made.kws K) (He.fAd K d_law_made.at_) fd := by
  obtain ⟨h, X, G, c, e⟩ := T.ex
  exact c.def_ 62 rfl
theorem Txt.f_law_next (T : Txt w K mg) : ∃ fd, FunD K d_law_next.name d_law_next.qual d_law_next.params d_law_next.body d_law_next.scope (d_law_next.dvs K) (d_law_next.kws K) (He.fAd K d_law_next.at_) fd := by
  obtain ⟨h, X, G, c, e⟩ := T.ex
  exact c.def_ 63 rfl
theorem Txt.f_law_seen (T : Txt w K mg) : ∃ fd, FunD K d_law_seen.name d_law_seen.qual d_law_seen.params d_law_seen.body d_law_seen.scope (d_law_seen.dvs K) (d_law_seen.kws K) (He.fAd K d_law_seen.at_) fd := by
  obtain ⟨h, X, G, c, e⟩ := T.ex
  exact c.def_ 64 rfl
theorem Txt.f_law_moved (T : Txt w K mg) : ∃ fd, FunD K d_law_moved.name d_law_moved.qual d_law_moved.params d_law_moved.body d_law_moved.scope (d_law_moved.dvs K) (d_law_moved.kws K) (He.fAd K d_law_moved.at_) fd := by
  obtain ⟨h, X, G, c, e⟩ := T.ex
  exact c.def_ 65 rfl
theorem Txt.f_law_aged (T : Txt w K mg) : ∃ fd, FunD K d_law_aged.name d_law_aged.qual d_law_aged.params d_law_aged.body d_law_aged.scope (d_law_aged.dvs K) (d_law_aged.kws K) (He.fAd K d_law_aged.at_) fd := by
  obtain ⟨h, X, G, c, e⟩ := T.ex
  exact c.def_ 66 rfl
theorem Txt.f_law_stands (T : Txt w K mg) : ∃ fd, FunD K d_law_stands.name d_law_stands.qual d_law_stands.params d_law_stands.body d_law_stands.scope (d_law_stands.dvs K) (d_law_stands.kws K) (He.fAd K d_law_stands.at_) fd := by
  obtain ⟨h, X, G, c, e⟩ := T.ex
  exact c.def_ 67 rfl
theorem Txt.f_law_step (T : Txt w K mg) : ∃ fd, FunD K d_law_step.name d_law_step.qual d_law_step.params d_law_step.body d_law_step.scope (d_law_step.dvs K) (d_law_step.kws K) (He.fAd K d_law_step.at_) fd := by
  obtain ⟨h, X, G, c, e⟩ := T.ex
  exact c.def_ 68 rfl
theorem Txt.f_law (T : Txt w K mg) : ∃ fd, FunD K d_law.name d_law.qual d_law.params d_law.body d_law.scope (d_law.dvs K) (d_law.kws K) (He.fAd K d_law.at_) fd := by
  obtain ⟨h, X, G, c, e⟩ := T.ex
  exact c.def_ 69 rfl
theorem Txt.f_Wall_parcels (T : Txt w K mg) : ∃ fd, FunD K d_Wall_parcels.name d_Wall_parcels.qual d_Wall_parcels.params d_Wall_parcels.body d_Wall_parcels.scope (d_Wall_parcels.dvs K) (d_Wall_parcels.kws K) (My.gAd K ("Wall", "parcels")) fd := (My.get_ix T.getb T.gets 0 rfl).2
theorem Txt.pr_Wall_parcels (T : Txt w K mg) : ∃ a, PropOf K (He.ga K "Wall") "parcels" a (My.gAd K ("Wall", "parcels")) := (My.get_ix T.getb T.gets 0 rfl).1
theorem Txt.f_Wall_lying (T : Txt w K mg) : ∃ fd, FunD K d_Wall_lying.name d_Wall_lying.qual d_Wall_lying.params d_Wall_lying.body d_Wall_lying.scope (d_Wall_lying.dvs K) (d_Wall_lying.kws K) (My.gAd K ("Wall", "lying")) fd := (My.get_ix T.getb T.gets 1 rfl).2
theorem Txt.pr_Wall_lying (T : Txt w K mg) : ∃ a, PropOf K (He.ga K "Wall") "lying" a (My.gAd K ("Wall", "lying")) := (My.get_ix T.getb T.gets 1 rfl).1
theorem Txt.f_Wall_book (T : Txt w K mg) : ∃ fd, FunD K d_Wall_book.name d_Wall_book.qual d_Wall_book.params d_Wall_book.body d_Wall_book.scope (d_Wall_book.dvs K) (d_Wall_book.kws K) (My.gAd K ("Wall", "book")) fd := (My.get_ix T.getb T.gets 2 rfl).2
theorem Txt.pr_Wall_book (T : Txt w K mg) : ∃ a, PropOf K (He.ga K "Wall") "book" a (My.gAd K ("Wall", "book")) := (My.get_ix T.getb T.gets 2 rfl).1
end
end K67


namespace K67
open PySem PySem.Spec PyProof.Rows L2
abbrev R : PySem.W.OpenRow := PySem.W.OpenLaw.row PySem.Challenge.rw_lockerwall_k67_whole_where_parcels_are
abbrev hk : PySem.W.Hook := My.hookD4 5 fa fn ex ts gs
def ob (s : PySem.W.SharedT) : My.AlG := My.obsDG4 5 fa fn ex ts gs (HandSHeadRun.getT s)
theorem ob_eq (s : PySem.W.SharedT) : ob s = hk.obs s.abs := My.obsDG4_eq (HandSHeadRun.getT_eq s)
def loose : List PySem.Str := ((["Told", "Box", "is_integer_within", "is_truth", "is_word", "are_distinct_words", "WallError", "NoDays", "NoMoments", "NoSizes", "NoSize", "NothingToUndo", "NoRule", "NoMoment", "NoDeed", "NoParcel", "NoBox", "NoText", "are_truths", "is_size", "are_sizes", "check_truths", "Wall", "is_rule", "Book", "book_text", "read_book", "lines_of", "read_number", "read_days"] : List PySem.Str) ++ (["read_rule", "_law_well", "_law_draw", "_law_pick", "_law_any_rule", "_law_rules", "_law_number", "_law_sizes", "_law_plain", "_law_book", "_law_made", "_law_next", "_law_seen", "_law_moved", "_law_aged", "_law_stands", "_law_step", "MOST_BOXES", "MOST_SIZE", "ACTIONS", "MOMENTS", "MOST_ACTIONS", "MOST_DAYS", "FIGURES"] : List PySem.Str))
def KK (s : PySem.W.SharedT) : PySem.W.Frag := He.frG (HandSHeadRun.getT s) (He.asD (HandSHeadRun.getT s) 5)
theorem obs_by {K : PySem.W.Frag} (h1 : ((fa.take (fa.length / 2)).all fun f => f.ok K) = true) (h2 : ((fa.drop (fa.length / 2)).all fun f => f.ok K) = true) (h3 : (fn.all fun d => d.ok K) = true) (h4 : (fn.map fun d => He.fnW K d.at_) = fn.map He.DefD.val) : He.obsD fa fn K = He.valD fn := by
  have e : (fa.all fun f => f.ok K) = true := by
    rw [← List.take_append_drop (fa.length / 2) fa, List.all_append, h1, h2]
    rfl
  show ((fa.all fun f => f.ok K) && fn.all fun d => d.ok K, fn.map fun d => He.fnW K d.at_) = (true, fn.map He.DefD.val)
  rw [e, h3, h4]
  rfl
open PySem PySem.W PySem.Calls PyProof.Rows in
theorem runa (w : World) (os : OsState) : (HandSHeadRun.endF (HandSHeadRun.stepQ (HandSHeadRun.denQ HandSHeadRun.tabQ) R.prog w) 9000 R.prog w os).map (fun s => (HandSHeadRun.looksF R.prog (boot_heap (w).params) s.abs, HandSHeadRun.seenQ (PySem.W.view R.prog [62]) loose (importedModules R.prog.main.body) (fun s => PySem.W.xlAt (PySem.W.view R.prog [62]) [] s && PySem.W.recOk R.toRowW.records s) s.abs)) = some (true, PySem.W.openGood (PySem.W.view R.prog [62]) loose) := by
  kernel_rfl
theorem runb1 (w : World) (os : OsState) : (HandSHeadRun.endF (HandSHeadRun.stepQ (HandSHeadRun.denQ HandSHeadRun.tabQ) R.prog w) 9000 R.prog w os).map (fun s => (fa.take (fa.length / 2)).all fun f => f.ok (KK s)) = some true := by
  kernel_rfl
theorem runb2 (w : World) (os : OsState) : (HandSHeadRun.endF (HandSHeadRun.stepQ (HandSHeadRun.denQ HandSHeadRun.tabQ) R.prog w) 9000 R.prog w os).map (fun s => (fa.drop (fa.length / 2)).all fun f => f.ok (KK s)) = some true := by
  kernel_rfl
theorem runb3x (w : World) (os : OsState) : (HandSHeadRun.endF (HandSHeadRun.stepQ (HandSHeadRun.denQ HandSHeadRun.tabQ) R.prog w) 9000 R.prog w os).map (fun s => (fn.take (fn.length / 2)).all fun d => d.ok (KK s)) = some true := by
  kernel_rfl
theorem runb3y (w : World) (os : OsState) : (HandSHeadRun.endF (HandSHeadRun.stepQ (HandSHeadRun.denQ HandSHeadRun.tabQ) R.prog w) 9000 R.prog w os).map (fun s => (fn.drop (fn.length / 2)).all fun d => d.ok (KK s)) = some true := by
  kernel_rfl
theorem runb3 (w : World) (os : OsState) : (HandSHeadRun.endF (HandSHeadRun.stepQ (HandSHeadRun.denQ HandSHeadRun.tabQ) R.prog w) 9000 R.prog w os).map (fun s => fn.all fun d => d.ok (KK s)) = some true := by
  have z := My.map_two (runb3x w os) (runb3y w os)
  obtain ⟨s, es, ev⟩ := Option.map_eq_some_iff.mp z
  rw [es]
  have f1 : ((fn.take (fn.length / 2)).all fun d => d.ok (KK s)) = true := congrArg (fun z => z.1) ev
  have f2 : ((fn.drop (fn.length / 2)).all fun d => d.ok (KK s)) = true := congrArg (fun z => z.2) ev
  refine congrArg some ?_
  show (fn.all fun d => d.ok (KK s)) = true
  rw [← List.take_append_drop (fn.length / 2) fn, List.all_append, f1, f2]
  rfl
theorem runb4 (w : World) (os : OsState) : (HandSHeadRun.endF (HandSHeadRun.stepQ (HandSHeadRun.denQ HandSHeadRun.tabQ) R.prog w) 9000 R.prog w os).map (fun s => fn.map fun d => He.fnW (KK s) d.at_) = some (fn.map He.DefD.val) := by
  kernel_rfl
theorem runc (w : World) (os : OsState) : (HandSHeadRun.endF (HandSHeadRun.stepQ (HandSHeadRun.denQ HandSHeadRun.tabQ) R.prog w) 9000 R.prog w os).map (fun s => (ex (KK s) && My.getsB gs (KK s), My.tabsOf ts (KK s), My.getsOf gs (KK s))) = some (true, My.tabsDue ts (w), My.getsDue gs) := by
  kernel_rfl
theorem run (w : World) : HandSHeadRun.RunEq R (PySem.W.view R.prog [62]) hk ob 9000 loose (w) := by
  intro os
  have z := My.map_two (runa w os) (My.map_two (My.map_two (My.map_two (runb1 w os) (runb2 w os)) (My.map_two (runb3 w os) (runb4 w os))) (runc w os))
  obtain ⟨s, es, ev⟩ := Option.map_eq_some_iff.mp z
  rw [es]
  have e1 := congrArg (fun z => z.1) ev
  have f1 := congrArg (fun z => z.2.1.1.1) ev
  have f2 := congrArg (fun z => z.2.1.1.2) ev
  have f3 := congrArg (fun z => z.2.1.2.1) ev
  have f4 := congrArg (fun z => z.2.1.2.2) ev
  have e3 := congrArg (fun z => z.2.2) ev
  exact congrArg some (Prod.ext (congrArg (fun z => z.1) e1) (Prod.ext (congrArg (fun z => z.2) e1) (Prod.ext (obs_by f1 f2 f3 f4) e3)))
end K67

set_option maxHeartbeats 200000
namespace K67
open PySem PySem.Spec PyProof.Rows L2
section
variable {P : Program} {w : World} {K : PySem.W.Frag} {mg : Str → Option Value} {base : Heap}
/-! ### checks -/
def sp_is_integer_within (K : PySem.W.Frag) : Sp := fun vs H Q _ => ∃ n lo hi : Int, vs = [.int n, .int lo, .int hi] ∧ Q (.bl (decide (lo ≤ n) && decide (n ≤ hi))) H
set_option maxHeartbeats 2000000 in
theorem ok_is_integer_within (T : Txt w K mg) {fd : FuncData} (F : FunD K d_is_integer_within.name d_is_integer_within.qual d_is_integer_within.params d_is_integer_within.body d_is_integer_within.scope (d_is_integer_within.dvs K) (d_is_integer_within.kws K) (He.fAd K d_is_integer_within.at_) fd) : FnOk P w K mg base C8.CX0 1 (He.fAd K d_is_integer_within.at_) fd ["value", "low", "high"] (sp_is_integer_within K) := by
  refine F.ok sc_is_integer_within (fun vs H Q E h => ?_) (fun cdv A outer s H vs Q E hr h => ?_)
  · obtain ⟨n, lo, hi, rfl, _⟩ := h
    rfl
  · have hu := L2.hu_of hr
    obtain ⟨n, lo, hi, rfl, q⟩ := h
    refine ⟨_, (PSs.nox ((pss_one (ps_ret (pe_and (pe_callB (My.isiK (K := K) rfl) (by rfl) T.isinstance (by decide +kernel) (pa_cons (pv 0) (pa_cons (pe_bltn (v := .ty "int") (u := .type "int") rfl T.int (by decide +kernel) rfl) pa_nil))) (pe_and (pe_not (pe_callB (My.isiK (K := K) rfl) (by rfl) T.isinstance (by decide +kernel) (pa_cons (pv 0) (pa_cons (pe_bltn (v := .ty "bool") (u := .type "bool") rfl T.bool (by decide +kernel) rfl) pa_nil)))) (pe_one (pe_chain op_le op_le (pv 1) (pv 0) (pv 2))))))))), ?_⟩
    refine ⟨_, rfl, _, _, _, _, _, rfl, .ty "int", .base (.int n), L2.kit_ty (by decide +kernel), true, rfl, ?_⟩
    refine L2.iteT ?_
    refine ⟨_, rfl, _, _, _, _, _, rfl, .ty "bool", .base (.int n), L2.kit_ty (by decide +kernel), false, rfl, true, rfl, ?_⟩
    refine L2.iteT ?_
    refine ⟨_, rfl, _, rfl, _, _, rfl, rfl, _, rfl, ?_⟩
    refine L2.ite2 (fun c => ?_) (fun c => ?_)
    · refine ⟨_, rfl, _, _, rfl, rfl, ?_⟩
      rw [c] at q
      exact q
    · have e : decide (lo ≤ n) = false := by simpa using c
      rw [e] at q
      exact q
theorem c_is_integer_within (T : Txt w K mg) : C8.Cal P w K mg base 1 "is_integer_within" (sp_is_integer_within K) [] := by
  obtain ⟨fd, F⟩ := T.f_is_integer_within
  exact ⟨_, fd, _, _, ok_is_integer_within T F, T.g_is_integer_within, F.kp, F.bindsN (fun _ _ _ _ _ _ us hl => match us, hl with | [_, _, _], _ => rfl), .nil⟩
def sp_is_truth (K : PySem.W.Frag) : Sp := fun vs H Q _ => ∃ b : Bool, vs = [.bl b] ∧ Q (.bl true) H
set_option maxHeartbeats 2000000 in
theorem ok_is_truth (T : Txt w K mg) {fd : FuncData} (F : FunD K d_is_truth.name d_is_truth.qual d_is_truth.params d_is_truth.body d_is_truth.scope (d_is_truth.dvs K) (d_is_truth.kws K) (He.fAd K d_is_truth.at_) fd) : FnOk P w K mg base C8.CX0 1 (He.fAd K d_is_truth.at_) fd ["value"] (sp_is_truth K) := by
  refine F.ok sc_is_truth (fun vs H Q E h => ?_) (fun cdv A outer s H vs Q E hr h => ?_)
  · obtain ⟨b, rfl, _⟩ := h
    rfl
  · have hu := L2.hu_of hr
    obtain ⟨b, rfl, q⟩ := h
    refine ⟨_, (PSs.nox ((pss_one (ps_ret (pe_or (pe_cmpR op_isBl (pv 0) pe_bl (nomark _)) (pe_one (pe_cmpR op_isBl (pv 0) pe_bl (nomark _)))))))), ?_⟩
    refine ⟨_, rfl, _, _, rfl, rfl, _, rfl, ?_⟩
    cases b with
    | true => exact L2.iteT q
    | false => exact L2.iteF ⟨_, rfl, _, _, rfl, rfl, q⟩
theorem c_is_truth (T : Txt w K mg) : C8.Cal P w K mg base 1 "is_truth" (sp_is_truth K) [] := by
  obtain ⟨fd, F⟩ := T.f_is_truth
  exact ⟨_, fd, _, _, ok_is_truth T F, T.g_is_truth, F.kp, F.bindsN (fun _ _ _ _ _ _ us hl => match us, hl with | [_], _ => rfl), .nil⟩
def sp_is_word (K : PySem.W.Frag) : Sp := fun vs H Q _ => ∃ (x : Str) (a : Addr) (ws : List Str), vs = [.str x, .ref a] ∧ SqT K H a (ws.map V.str) ∧ Q (.bl (decide (x ∈ ws))) H
set_option maxHeartbeats 2000000 in
theorem ok_is_word (T : Txt w K mg) {fd : FuncData} (F : FunD K d_is_word.name d_is_word.qual d_is_word.params d_is_word.body d_is_word.scope (d_is_word.dvs K) (d_is_word.kws K) (He.fAd K d_is_word.at_) fd) : FnOk P w K mg base C8.CX0 1 (He.fAd K d_is_word.at_) fd ["value", "words"] (sp_is_word K) := by
  refine F.ok sc_is_word (fun vs H Q E h => ?_) (fun cdv A outer s H vs Q E hr h => ?_)
  · obtain ⟨x, a, ws, rfl, _⟩ := h
    rfl
  · have hu := L2.hu_of hr
    obtain ⟨x, a, ws, rfl, hS, q⟩ := h
    refine ⟨_, (PSs.nox ((pss_one (ps_ret (pe_and (pe_callB (My.isiK (K := K) rfl) (by rfl) T.isinstance (by decide +kernel) (pa_cons (pv 0) (pa_cons (pe_bltn (v := .ty "str") (u := .type "str") rfl T.str (by decide +kernel) rfl) pa_nil))) (pe_one (pe_cmpR (My.in_seqK (K := K) rfl) (pv 0) (pv 1) (by rfl)))))))), ?_⟩
    refine ⟨_, rfl, _, _, _, _, _, rfl, .ty "str", .base (.str x), L2.kit_ty (by decide +kernel), true, rfl, ?_⟩
    refine L2.iteT ?_
    refine ⟨_, rfl, _, rfl, a, _, rfl, .inr hS, rfl, My.all_flat_str ws, ?_⟩
    show Q (.bl (if false = true then _ else inV (.str x) (ws.map V.str))) H
    rw [if_neg Bool.false_ne_true, My.inV_str]
    exact q
theorem c_is_word (T : Txt w K mg) : C8.Cal P w K mg base 1 "is_word" (sp_is_word K) [] := by
  obtain ⟨fd, F⟩ := T.f_is_word
  exact ⟨_, fd, _, _, ok_is_word T F, T.g_is_word, F.kp, F.bindsN (fun _ _ _ _ _ _ us hl => match us, hl with | [_, _], _ => rfl), .nil⟩
end
end K67

namespace K67
open PySem PySem.Spec PyProof.Rows L2 My
/-! ### books -/
abbrev acts : List Str := ["free", "full", "off", "code", "void", "look", "lock"]
abbrev moms : List Str := ["given", "laid", "left", "opened", "taken", "gone", "late", "power"]
abbrev RuleL := List Str
def GoodRule (r : RuleL) : Prop := r.length ≤ 6 ∧ ∀ x ∈ r, x ∈ acts
/-- a rule as it stands: a tuple of texts -/
def RuleAt (K : PySem.W.Frag) (H : Hp) (a : Addr) (r : RuleL) : Prop := SqT K H a (r.map V.str)
def bkf (d : Int) (t : Addr) : List (Str × V) := [("_days", V.int d), ("_rules", V.ref t)]
/-- a book of d days with these rules -/
def BookAt (K : PySem.W.Frag) (H : Hp) (b : Addr) (d : Int) (rs : List RuleL) : Prop := ∃ (dx t : Addr) (as : List Addr), H b = some (.ins (He.ga K "Book") dx (bkf d t)) ∧ SqT K H t (as.map V.ref) ∧ Paired (RuleAt K H) as rs ∧ rs.length = 8
theorem RuleAt.but {K : PySem.W.Frag} {xs : List Addr} {H H' : Hp} {a : Addr} {r : RuleL} (s : But xs H H') (n : a ∉ xs) (h : RuleAt K H a r) : RuleAt K H' a r := s.tup n h
theorem paired_map {α β : Type} {F G : α → β → Prop} : ∀ {l : List α} {m : List β}, (∀ a b, a ∈ l → F a b → G a b) → Paired F l m → Paired G l m
  | _, _, _, .nil => .nil
  | _, _, h, .cons r t => .cons (h _ _ (List.mem_cons_self ..) r) (paired_map (fun a b m => h a b (List.mem_cons_of_mem _ m)) t)
theorem paired_get {α β : Type} {F : α → β → Prop} : ∀ {l : List α} {m : List β} {i : Nat} {b : β}, Paired F l m → m[i]? = some b → ∃ a, l[i]? = some a ∧ F a b
  | _, _, _, _, .nil, e => by simp at e
  | _, _, 0, _, .cons r _, e => by simp at e; subst e; exact ⟨_, rfl, r⟩
  | _, _, i + 1, _, .cons _ t, e => by
    obtain ⟨a, h1, h2⟩ := paired_get t (by simpa using e)
    exact ⟨a, by simpa using h1, h2⟩
theorem BookAt.same {K : PySem.W.Frag} {H H' : Hp} {b : Addr} {d : Int} {rs : List RuleL} (s : Same H H') (h : BookAt K H b d rs) : BookAt K H' b d rs := by
  obtain ⟨dx, t, as, h1, h2, h3, h4⟩ := h
  exact ⟨dx, t, as, s _ _ h1, same_tup s h2, paired_map (fun a b _ r => same_tup s r) h3, h4⟩
section
variable {P : Program} {w : World} {K : PySem.W.Frag} {mg : Str → Option Value} {base : Heap}
def sp_is_rule (K : PySem.W.Frag) : Sp := fun vs H Q _ => ∃ (a : Addr) (r : RuleL), vs = [.ref a] ∧ RuleAt K H a r ∧ GoodRule r ∧ ∀ H', Same H H' → Q (.bl true) H'
set_option maxHeartbeats 2000000 in
theorem ok_is_rule (T : Txt w K mg) {fd : FuncData} (F : FunD K d_is_rule.name d_is_rule.qual d_is_rule.params d_is_rule.body d_is_rule.scope (d_is_rule.dvs K) (d_is_rule.kws K) (He.fAd K d_is_rule.at_) fd) : FnOk P w K mg base C8.CX0 2 (He.fAd K d_is_rule.at_) fd ["value"] (sp_is_rule K) := by
  obtain ⟨t_MOST_ACTIONS, g_MOST_ACTIONS⟩ := T.g_MOST_ACTIONS
  have c_is_word := c_is_word (P := P) (w := w) (base := base) T
  refine F.ok sc_is_rule (fun vs H Q E h => ?_) (fun cdv A outer s H vs Q E hr h => ?_)
  · obtain ⟨a, r, rfl, _⟩ := h
    rfl
  · have hu := L2.hu_of hr
    obtain ⟨a, r, rfl, hS, hg, q⟩ := h
    refine ⟨_, (PSs.nox ((pss_cons (ps_if (PW.pt (pw_or (pt_not (pt_val (pe_callB (My.isiK (K := K) rfl) (by rfl) T.isinstance (by decide +kernel) (pa_cons (pv 0) (pa_cons (pe_bltn (v := .ty "tuple") (u := .type "tuple") rfl T.tuple (by decide +kernel) rfl) pa_nil))))) (pw_or1 (pt_cmpR op_gt (pe_callB (My.len_seqK (K := K) rfl) (by rfl) T.len (by decide +kernel) (pa_cons (pv 0) pa_nil)) (pe_glob (v := .int 6) rfl g_MOST_ACTIONS ⟨_, rfl⟩) (nomark _)))))
  (pss_one (ps_ret pe_bl))
  pss_nil)
  (pss_one (ps_ret (pe_callB (My.allK (K := K) rfl rfl) (by rfl) T.all (by decide +kernel) (pa_cons (pe_lc (own := [("action", 1)]) (g := (gName 1)) (tt := tYes) (by rfl) sc_is_rule.nd (My.pi_tupK (K := K) rfl (pv 0)) (blkOk_by (N := N_is_rule) (sc := defScope s_is_rule) (by decide +kernel)) (fun _ _ _ _ _ => (pg_name (i := 1) sc_is_rule.nd rfl (by first | exact Or.inl rfl | exact Or.inr rfl))) (fun _ _ _ _ _ => pts_nil) (fun _ _ _ _ _ => (C8.pe_c c_is_word hr (by decide) rfl (pa_cons (pv 1) (pa_cons (pe_glob (v := .ref (He.ga K "ACTIONS")) rfl T.g_ACTIONS rfl) pa_nil))))) pa_nil))))))), ?_⟩
    refine ⟨_, rfl, _, _, _, _, _, rfl, .ty "tuple", tyx_tup hS, L2.kit_ty (by decide +kernel), true, rfl, ?_⟩
    refine L2.iteF ?_
    refine ⟨_, rfl, a, _, rfl, .inr hS, _, _, rfl, rfl, _, rfl, ?_⟩
    have e : decide (((r.map V.str).length : Int) > 6) = false := decide_eq_false (by rw [List.length_map]; have := hg.1; omega)
    rw [e]
    refine L2.iteF ?_
    refine ⟨_, rfl, a, rfl, ⟨_, hS⟩, fun D hD => lc_tup (K := K) (a := a) (xs := r.map V.str) (fun i H' => Same H H' ∧ H' D = some (.lst ((List.replicate i true).map V.bl))) ⟨same_new hD, upd_same⟩ (fun i H' _ p => same_tup p.1 hS) ?_ ?_⟩
    · rintro i y H2 hi ⟨s2, hD2⟩
      obtain ⟨z, hz, rfl⟩ := map_get hi
      have hlt : i < r.length := (List.getElem?_eq_some_iff.mp hz).1
      have hm : z ∈ acts := hg.2 z (List.mem_of_getElem? hz)
      refine ⟨rfl, ?_⟩
      refine ⟨_, rfl, z, _, acts, rfl, T.tup_ACTIONS _, ?_⟩
      rw [decide_eq_true hm]
      refine ⟨_, hD2, ?_, same_upd s2 hD, ?_⟩
      · rw [List.length_map, List.length_replicate]
        have := hg.1
        exact Nat.lt_of_lt_of_le hlt (Nat.le_trans this (by decide))
      · rw [upd_same, List.replicate_succ', List.map_append]
        rfl
    · rintro H2 ⟨s2, hD2⟩
      refine ⟨D, _, rfl, SqL.of hD2, ?_⟩
      have e2 : (List.replicate (r.map V.str).length true).all id = true := List.all_eq_true.mpr fun x hx => (List.mem_replicate.mp hx).2
      rw [e2]
      exact q _ s2
theorem c_is_rule (T : Txt w K mg) : C8.Cal P w K mg base 2 "is_rule" (sp_is_rule K) [] := by
  obtain ⟨fd, F⟩ := T.f_is_rule
  exact ⟨_, fd, _, _, ok_is_rule T F, T.g_is_rule, F.kp, F.bindsN (fun _ _ _ _ _ _ us hl => match us, hl with | [_], _ => rfl), .nil⟩
def sp_Book_init (K : PySem.W.Frag) : Sp := fun vs H Q _ => ∃ (p dx : Addr) (d : Int) (as : List Addr) (rs : List RuleL), vs = .ref p :: .int d :: as.map V.ref ∧ H p = some (.ins (He.ga K "Book") dx []) ∧ 1 ≤ d ∧ d ≤ 30 ∧
  Paired (RuleAt K H) as rs ∧ rs.length = 8 ∧ (∀ r ∈ rs, GoodRule r) ∧ ∀ H' t, But [p] H H' → H' p = some (.ins (He.ga K "Book") dx (bkf d t)) → H' t = some (.tup (as.map V.ref)) → Q .non H'
theorem len8 {α β : Type} {F : α → β → Prop} {as : List α} {rs : List β} (h : Paired F as rs) (e : rs.length = 8) : ∃ a0 a1 a2 a3 a4 a5 a6 a7, as = [a0, a1, a2, a3, a4, a5, a6, a7] := by
  have l : as.length = 8 := h.length.trans e
  match as, l with
  | [a0, a1, a2, a3, a4, a5, a6, a7], _ => exact ⟨a0, a1, a2, a3, a4, a5, a6, a7, rfl⟩
set_option maxHeartbeats 2000000 in
theorem ok_Book_init (T : Txt w K mg) {fd : FuncData} (F : FunD K d_Book_init.name d_Book_init.qual d_Book_init.params d_Book_init.body d_Book_init.scope (d_Book_init.dvs K) (d_Book_init.kws K) (He.fAd K d_Book_init.at_) fd) : FnOk P w K mg base C8.CX0 3 (He.fAd K d_Book_init.at_) fd ["self", "days", "given", "laid", "left", "opened", "taken", "gone", "late", "power"] (sp_Book_init K) := by
  obtain ⟨t_MOST_DAYS, g_MOST_DAYS⟩ := T.g_MOST_DAYS
  have c_is_rule := c_is_rule (P := P) (w := w) (base := base) T
  have c_is_integer_within := c_is_integer_within (P := P) (w := w) (base := base) T
  refine F.ok sc_Book_init (fun vs H Q E h => ?_) (fun cdv A outer s H vs Q E hr h => ?_)
  · obtain ⟨p, dx, d, as, rs, rfl, _, _, _, h3, h4, _⟩ := h
    obtain ⟨a0, a1, a2, a3, a4, a5, a6, a7, rfl⟩ := len8 h3 h4
    rfl
  · have hu := L2.hu_of hr
    obtain ⟨p, dx, d, as, rs, rfl, hp, h1, h2, h3, h4, h5, q⟩ := h
    obtain ⟨a0, a1, a2, a3, a4, a5, a6, a7, rfl⟩ := len8 h3 h4
    refine ⟨_, (PSs.nox ((pss_cons (ps_if (pt_not (pt_val (C8.pe_c c_is_integer_within hr (by decide) rfl (pa_cons (pv 1) (pa_cons pe_int (pa_cons (pe_glob (v := .int 30) rfl g_MOST_DAYS ⟨_, rfl⟩) pa_nil))))))
  (pss_one ps_never)
  pss_nil)
  (pss_cons (ps_set (i := 10) sc_Book_init.nd rfl (by first | exact Or.inl rfl | exact Or.inr rfl) (pe_tup (pa_cons (pv 2) (pa_cons (pv 3) (pa_cons (pv 4) (pa_cons (pv 5) (pa_cons (pv 6) (pa_cons (pv 7) (pa_cons (pv 8) (pa_cons (pv 9) pa_nil))))))))))
  (pss_cons (ps_for PassesOwn.never rfl (RZ.pi_zipA (by rfl) T.zip (pa_cons (pe_glob (v := .ref (He.ga K "MOMENTS")) rfl T.g_MOMENTS rfl) (pa_cons (pv 10) pa_nil))) (My.pg_tupK (K := K) (n := 2) rfl rfl (pgs_cons (pg_name (i := 11) sc_Book_init.nd rfl (by first | exact Or.inl rfl | exact Or.inr rfl)) (pgs_cons (pg_name (i := 12) sc_Book_init.nd rfl (by first | exact Or.inl rfl | exact Or.inr rfl)) pgs_nil)))
  (pss_one (ps_if (pt_not (pt_val (C8.pe_c c_is_rule hr (by decide) rfl (pa_cons (pv 12) pa_nil))))
  (pss_one ps_never)
  pss_nil)))
  (pss_cons (ps_fld (pv 0) (pv 1) rfl)
  (pss_one (ps_fld (pv 0) (pv 10) rfl)))))))), ?_⟩
    refine ⟨_, rfl, d, 1, 30, rfl, true, by rw [decide_eq_true h1, decide_eq_true h2] <;> rfl, ?_⟩
    refine L2.iteF ?_
    refine ⟨_, rfl, _, rfl, _, rfl, _, rfl, _, rfl, _, rfl, _, rfl, _, rfl, by show 8 ≤ sizeLine; decide, fun t ht => ?_⟩
    have npt : p ≠ t := ne_of_none hp ht
    refine ⟨_, rfl, _, _, moms.map V.str, [V.ref a0, V.ref a1, V.ref a2, V.ref a3, V.ref a4, V.ref a5, V.ref a6, V.ref a7], rfl, .inr ⟨T.tup_MOMENTS _, SqT.of upd_same, ?_⟩⟩
    refine RZ.for_zipT (K := K) (xs := moms.map V.str) (ys := [V.ref a0, V.ref a1, V.ref a2, V.ref a3, V.ref a4, V.ref a5, V.ref a6, V.ref a7]) rfl (fun i σ H' => ∃ u v, σ = [some (.ref p), some (.int d), some (.ref a0), some (.ref a1), some (.ref a2), some (.ref a3), some (.ref a4), some (.ref a5), some (.ref a6), some (.ref a7), some (.ref t), u, v] ∧ Same (upd H t (.tup [V.ref a0, V.ref a1, V.ref a2, V.ref a3, V.ref a4, V.ref a5, V.ref a6, V.ref a7])) H')
      ⟨_, _, rfl, Same.refl _⟩ (fun i σ H' ⟨_, _, _, s⟩ => ⟨T.tup_MOMENTS _, same_tup s (SqT.of upd_same)⟩) ?_ ?_
    · rintro i x y T2 σ H2 hx hy ⟨u, v, rfl, s2⟩ hT2
      refine ⟨_, _, rfl, SqT.of upd_same, rfl, _, _, rfl, _, _, rfl, rfl, ?_⟩
      have hy' : ([a0, a1, a2, a3, a4, a5, a6, a7].map V.ref)[i]? = some y := hy
      obtain ⟨a, ha, rfl⟩ := map_get hy'
      obtain ⟨r, hr1, hr2⟩ : ∃ r, rs[i]? = some r ∧ RuleAt K H a r := by
        have hlt : i < rs.length := by rw [h4]; exact (List.getElem?_eq_some_iff.mp ha).1
        obtain ⟨b, hb, hR⟩ := paired_get h3 (List.getElem?_eq_getElem hlt)
        rw [ha] at hb
        cases hb
        exact ⟨_, List.getElem?_eq_getElem hlt, hR⟩
      have s3 : Same H (upd H2 T2 (.tup [x, .ref a])) := (same_new ht).trans (s2.trans (same_new hT2))
      refine ⟨_, rfl, a, r, rfl, same_tup s3 hr2, h5 r (List.mem_of_getElem? hr1), fun H3 s4 => ?_⟩
      refine ⟨true, rfl, L2.iteF ⟨_, _, rfl, s2.trans ((same_new hT2).trans s4)⟩⟩
    · rintro σ H2 ⟨u, v, rfl, s2⟩
      have hp2 : H2 p = some (.ins (He.ga K "Book") dx []) := s2 _ _ (by rw [upd_ne npt]; exact hp)
      have ht2 : H2 t = some (.tup [V.ref a0, V.ref a1, V.ref a2, V.ref a3, V.ref a4, V.ref a5, V.ref a6, V.ref a7]) := s2 _ _ upd_same
      refine ⟨_, rfl, _, rfl, p, _, dx, _, rfl, hp2, T.cl_Book, T.no_Book__days, (by show 0 < 1000; decide), ?_⟩
      refine ⟨_, rfl, _, rfl, p, _, dx, _, rfl, upd_same, T.cl_Book, T.no_Book__rules, (by show 1 < 1000; decide), ?_⟩
      refine q _ t ?_ upd_same ?_
      · exact (((But.of ((same_new ht).trans s2)).put (.inr (by simp))).put (.inr (by simp)))
      · rw [upd_ne npt.symm, upd_ne npt.symm]
        exact ht2
theorem c_Book_init (T : Txt w K mg) : C8.Mak P w K mg base 3 "Book" (He.ga K "Book") (sp_Book_init K) [] := by
  obtain ⟨fd, F⟩ := T.f_Book_init
  obtain ⟨ds, rd, bd⟩ := F.binds1 (ps := ["self", "days", "given", "laid", "left", "opened", "taken", "gone", "late", "power"]) 10 8 (by intro z; cases z) rfl (fun T kV doc pm an cdv ct us its hl hi => match us, its, hl, hi with | [_, _, _, _, _, _, _, _, _, _], [_, _, _, _, _, _, _, _], _, _ => ⟨_, rfl, rfl⟩)
  exact ⟨_, fd, _, _, T.mk_Book, ok_Book_init T F, T.g_Book, bd, rd⟩
def sp_Book_days (K : PySem.W.Frag) : Sp := fun vs H Q _ => ∃ (b : Addr) (d : Int) (rs : List RuleL), vs = [.ref b] ∧ BookAt K H b d rs ∧ Q (.int d) H
set_option maxHeartbeats 2000000 in
theorem ok_Book_days (T : Txt w K mg) {fd : FuncData} (F : FunD K d_Book_days.name d_Book_days.qual d_Book_days.params d_Book_days.body d_Book_days.scope (d_Book_days.dvs K) (d_Book_days.kws K) (He.fAd K d_Book_days.at_) fd) : FnOk P w K mg base C8.CX0 1 (He.fAd K d_Book_days.at_) fd ["self"] (sp_Book_days K) := by
  refine F.ok sc_Book_days (fun vs H Q E h => ?_) (fun cdv A outer s H vs Q E hr h => ?_)
  · obtain ⟨b, d, rs, rfl, _⟩ := h
    rfl
  · have hu := L2.hu_of hr
    obtain ⟨b, d, rs, rfl, ⟨dx, t, as, hb, _⟩, q⟩ := h
    refine ⟨_, (PSs.nox ((pss_one (ps_ret (My.pe_fldK (K := K) rfl (pv 0) rfl))))), ?_⟩
    exact ⟨_, rfl, b, _, dx, _, _, rfl, hb, T.cl_Book, T.no_Book__days, rfl, q⟩
theorem c_Book_days (T : Txt w K mg) : C8.Met P w K mg base 1 (He.ga K "Book") "days" (sp_Book_days K) [] := by
  obtain ⟨fd, F⟩ := T.f_Book_days
  exact ⟨_, fd, _, _, T.cl_Book, T.m_Book_days, ok_Book_days T F, F.bindsN (fun _ _ _ _ _ _ us hl => match us, hl with | [_], _ => rfl), .nil⟩
/-- the rule of the i-th moment -/
def sp_Book_rule (K : PySem.W.Frag) : Sp := fun vs H Q _ => ∃ (H0 : Hp) (b : Addr) (d : Int) (rs : List RuleL) (m : Str) (i : Nat) (r : RuleL), vs = [.ref b, .str m] ∧ Same H0 H ∧ BookAt K H0 b d rs ∧ moms[i]? = some m ∧ rs[i]? = some r ∧ ∀ a, RuleAt K H0 a r → Q (.ref a) H
set_option maxHeartbeats 2000000 in
theorem ok_Book_rule (T : Txt w K mg) {fd : FuncData} (F : FunD K d_Book_rule.name d_Book_rule.qual d_Book_rule.params d_Book_rule.body d_Book_rule.scope (d_Book_rule.dvs K) (d_Book_rule.kws K) (He.fAd K d_Book_rule.at_) fd) : FnOk P w K mg base C8.CX0 2 (He.fAd K d_Book_rule.at_) fd ["self", "moment"] (sp_Book_rule K) := by
  have c_is_word := c_is_word (P := P) (w := w) (base := base) T
  refine F.ok sc_Book_rule (fun vs H Q E h => ?_) (fun cdv A outer s H vs Q E hr h => ?_)
  · obtain ⟨H0, b, d, rs, m, i, r, rfl, _⟩ := h
    rfl
  · have hu := L2.hu_of hr
    obtain ⟨H0, b, d, rs, m, i, r, rfl, s0, ⟨dx, t, as, hb0, ht0, hrs, hl⟩, hm, hr1, q⟩ := h
    have hb := s0 _ _ hb0
    have ht := same_tup s0 ht0
    refine ⟨_, (PSs.nox ((pss_cons (ps_if (pt_not (pt_val (C8.pe_c c_is_word hr (by decide) rfl (pa_cons (pv 1) (pa_cons (pe_glob (v := .ref (He.ga K "MOMENTS")) rfl T.g_MOMENTS rfl) pa_nil)))))
  (pss_one ps_never)
  pss_nil)
  (pss_one (ps_ret (pe_ix (My.ix_tupK (K := K) rfl) (My.pe_fldK (K := K) rfl (pv 0) rfl) (My.pe_bmK (K := K) rfl PySem.F.plainAttrs_tuple PySem.F.slot_tuple_index PySem.F.type_tuple_index (My.tup_indexK (K := K) rfl) (pe_glob (v := .ref (He.ga K "MOMENTS")) rfl T.g_MOMENTS rfl) (pa_cons (pv 1) pa_nil)) (fun _ _ => rfl))))))), ?_⟩
    have hmem : m ∈ moms := List.mem_of_getElem? hm
    refine ⟨_, rfl, m, _, moms, rfl, T.tup_MOMENTS _, true, by rw [decide_eq_true hmem], ?_⟩
    refine L2.iteF ?_
    obtain ⟨a, ha, hR⟩ := paired_get hrs hr1
    have first : ∀ j, j < i → moms[j]? ≠ some m := by
      intro j hj e
      have hn : moms.Nodup := by decide +kernel
      exact absurd (L2.nd_ix hn e hm) (by omega)
    refine ⟨_, rfl, b, _, dx, _, _, rfl, hb, T.cl_Book, T.no_Book__rules, rfl, T.ty_MOMENTS _, _, rfl, _, moms, m, i, rfl, rfl, T.tup_MOMENTS _, hm, first, ?_⟩
    refine ⟨t, _, _, _, rfl, rfl, ht, atI_nat (by rw [List.getElem?_map, ha]; rfl), q a hR⟩
theorem c_Book_rule (T : Txt w K mg) : C8.Met P w K mg base 2 (He.ga K "Book") "rule" (sp_Book_rule K) [] := by
  obtain ⟨fd, F⟩ := T.f_Book_rule
  exact ⟨_, fd, _, _, T.cl_Book, T.m_Book_rule, ok_Book_rule T F, F.bindsN (fun _ _ _ _ _ _ us hl => match us, hl with | [_, _], _ => rfl), .nil⟩
end
end K67

namespace K67
open PySem PySem.Spec PyProof.Rows L2 My StX
/-! ### books by another rule, books by name -/
section
variable {P : Program} {w : World} {K : PySem.W.Frag} {mg : Str → Option Value} {base : Heap}
theorem paired_set {α β : Type} {F : α → β → Prop} : ∀ {l : List α} {m : List β} {a : α} {b : β} (i : Nat), Paired F l m → F a b → Paired F (l.set i a) (m.set i b)
  | _, _, _, _, _, .nil, _ => .nil
  | _, _, _, _, 0, .cons _ t, h => .cons h t
  | _, _, _, _, i + 1, .cons r t, h => .cons r (paired_set i t h)
theorem ixN_nat {n i : Nat} (h : i < n) : ixN n (i : Int) = some i := by
  unfold ixN
  rw [if_pos (by omega), if_pos (by omega), Int.toNat_natCast]
def sp_Book_with_rule (K : PySem.W.Frag) : Sp := fun vs H Q _ => ∃ (b a : Addr) (d : Int) (rs : List RuleL) (m : Str) (i : Nat) (r : RuleL), vs = [.ref b, .str m, .ref a] ∧ BookAt K H b d rs ∧ moms[i]? = some m ∧ RuleAt K H a r ∧ GoodRule r ∧ (∀ r ∈ rs, GoodRule r) ∧ 1 ≤ d ∧ d ≤ 30 ∧
  ∀ H' p, H p = none → Same H H' → BookAt K H' p d (rs.set i r) → Q (.ref p) H'
set_option maxHeartbeats 2000000 in
theorem ok_Book_with_rule (T : Txt w K mg) {fd : FuncData} (F : FunD K d_Book_with_rule.name d_Book_with_rule.qual d_Book_with_rule.params d_Book_with_rule.body d_Book_with_rule.scope (d_Book_with_rule.dvs K) (d_Book_with_rule.kws K) (He.fAd K d_Book_with_rule.at_) fd) : FnOk P w K mg base C8.CX0 5 (He.fAd K d_Book_with_rule.at_) fd ["self", "moment", "rule"] (sp_Book_with_rule K) := by
  have c_Book_init := c_Book_init (P := P) (w := w) (base := base) T
  have c_is_word := c_is_word (P := P) (w := w) (base := base) T
  refine F.ok sc_Book_with_rule (fun vs H Q E h => ?_) (fun cdv A outer s H vs Q E hr h => ?_)
  · obtain ⟨b, a, d, rs, m, i, r, rfl, _⟩ := h
    rfl
  · have hu := L2.hu_of hr
    obtain ⟨b, a, d, rs, m, i, r, rfl, ⟨dxb, t, as, hb, ht, hrs, hl⟩, hm, hR, hg, hgs, h1, h2, q⟩ := h
    refine ⟨_, (PSs.nox ((pss_cons (ps_if (pt_not (pt_val (C8.pe_c c_is_word hr (by decide) rfl (pa_cons (pv 1) (pa_cons (pe_glob (v := .ref (He.ga K "MOMENTS")) rfl T.g_MOMENTS rfl) pa_nil)))))
  (pss_one ps_never)
  pss_nil)
  (pss_cons (ps_set (i := 3) sc_Book_with_rule.nd rfl (by first | exact Or.inl rfl | exact Or.inr rfl) (pe_callTy (My.list_ofK (K := K) rfl) (by rfl) T.list (by decide +kernel) (pa_cons (My.pe_fldK (K := K) rfl (pv 0) rfl) pa_nil)))
  (pss_cons (ps_asg (pv 2) (pg_sub (pv 3) (My.pe_bmK (K := K) rfl PySem.F.plainAttrs_tuple PySem.F.slot_tuple_index PySem.F.type_tuple_index (My.tup_indexK (K := K) rfl) (pe_glob (v := .ref (He.ga K "MOMENTS")) rfl T.g_MOMENTS rfl) (pa_cons (pv 1) pa_nil)) set_list))
  (pss_one (ps_ret (My.pe_mkS2 c_Book_init hr (by decide) rfl (pa_cons (My.pe_fldK (K := K) rfl (pv 0) rfl) (My.pa_starK (K := K) rfl (pv 3) pa_nil)))))))))), ?_⟩
    have hmem : m ∈ moms := List.mem_of_getElem? hm
    have hi8 : i < 8 := (List.getElem?_eq_some_iff.mp hm).1
    refine ⟨_, rfl, m, _, moms, rfl, T.tup_MOMENTS _, true, by rw [decide_eq_true hmem], ?_⟩
    refine L2.iteF ?_
    have first : ∀ j, j < i → moms[j]? ≠ some m := by
      intro j hj e
      have hn : moms.Nodup := by decide +kernel
      exact absurd (L2.nd_ix hn e hm) (by omega)
    refine ⟨_, rfl, b, _, dxb, _, _, rfl, hb, T.cl_Book, T.no_Book__rules, rfl, t, _, rfl, .inr ht, fun l hl0 => ?_⟩
    have hal : as.length = 8 := hrs.length.trans hl
    have es : (as.map V.ref).set i (.ref a) = (as.set i a).map V.ref := by rw [List.map_set]
    refine ⟨_, rfl, _, rfl, T.ty_MOMENTS _, _, rfl, _, moms, m, i, rfl, rfl, T.tup_MOMENTS _, hm, first, l, _, _, i, rfl, rfl, upd_same, ixN_nat (by rw [List.length_map, hal]; exact hi8), ?_⟩
    rw [es]
    have s0 : Same H (upd (upd H l (.lst (as.map V.ref))) l (.lst ((as.set i a).map V.ref))) := same_upd (same_new hl0) hl0
    have hl3 : upd (upd H l (.lst (as.map V.ref))) l (.lst ((as.set i a).map V.ref)) l = some (.lst ((as.set i a).map V.ref)) := upd_same
    generalize upd (upd H l (.lst (as.map V.ref))) l (.lst ((as.set i a).map V.ref)) = H1 at s0 hl3
    refine ⟨_, rfl, b, _, dxb, _, _, rfl, s0 _ _ hb, T.cl_Book, T.no_Book__days, rfl, _, rfl, l, _, rfl, .inr (SqL.of hl3), ?_⟩
    intro x dx nx ndx nex
    have s1 : Same H1 (upd (upd H1 dx (.own x)) x (.ins (He.ga K "Book") dx [])) := (same_new ndx).trans (same_upd (Same.refl _) (by rw [upd_ne nex.symm]; exact nx))
    have s2 := s0.trans s1
    refine ⟨x, dx, d, as.set i a, rs.set i r, by rw [List.append_nil, List.append_nil], upd_same, h1, h2, paired_set i (paired_map (fun a r _ hr => same_tup s2 hr) hrs) (same_tup s2 hR), by rw [List.length_set]; exact hl, fun y hy => ?_, fun H' t2 bt hx ht2 => ⟨rfl, ?_⟩⟩
    · rcases List.mem_or_eq_of_mem_set hy with hy | hy
      · exact hgs y hy
      · rw [hy]; exact hg
    have s3 : Same H1 H' := fun c o e => bt c o (by simpa using ne_of_none e nx) (s1 _ _ e)
    have s4 := s0.trans s3
    exact q _ x (s0.free nx) s4 ⟨dx, t2, _, hx, SqT.of ht2, paired_set i (paired_map (fun a r _ hr => same_tup s4 hr) hrs) (same_tup s4 hR), by rw [List.length_set]; exact hl⟩
theorem c_Book_with_rule (T : Txt w K mg) : C8.Met P w K mg base 5 (He.ga K "Book") "with_rule" (sp_Book_with_rule K) [] := by
  obtain ⟨fd, F⟩ := T.f_Book_with_rule
  exact ⟨_, fd, _, _, T.cl_Book, T.m_Book_with_rule, ok_Book_with_rule T F, F.bindsN (fun _ _ _ _ _ _ us hl => match us, hl with | [_, _, _], _ => rfl), .nil⟩
def gB {α : Type} (us its ws : List α) : List α := us ++ ws ++ its.drop 6
theorem kn_Book_init (T : Txt w K mg) : My.MakN P w K mg base 3 "Book" (He.ga K "Book") (sp_Book_init K) 4 ["opened", "taken", "gone"] (fun vs zs => gB vs (d_Book_init.dvs K) zs) := by
  obtain ⟨fd, F⟩ := T.f_Book_init
  obtain ⟨its, hb⟩ := F.kbindsD (ps := ["self", "days", "given", "laid", "left", "opened", "taken", "gone", "late", "power"]) 5 ["opened", "taken", "gone"] (fun us its ws => gB us its ws) (by intro z; cases z)
    (fun r1 r2 r3 => (r1.append r3).append (My.vals_drop 6 r2))
    (fun T kV doc pm an cdv ct us its ws h1 h2 h3 => match us, its, ws, h1, h2, h3 with | [_, _, _, _, _], [_, _, _, _, _, _, _, _], [_, _, _], _, _, _ => ⟨_, rfl, rfl⟩)
  exact ⟨_, fd, _, _, T.mk_Book, ok_Book_init T F, T.g_Book, hb⟩
end
end K67

namespace K67
open PySem PySem.Spec PyProof.Rows L2 My
/-! ### springs: where a law's draws come from -/
/-- at a: a spring that was drawn from at most n times -/
def SpringAt (H : Hp) (a : Addr) (n : Nat) : Prop := ∃ w0 w1 w2 : Int, H a = some (.lst [.int w0, .int w1, .int w2]) ∧ w1.natAbs < 2 ^ 200 ∧ 0 ≤ w2 ∧ w2 ≤ (n : Int)
theorem SpringAt.mono {H : Hp} {a : Addr} {n m : Nat} (h : SpringAt H a n) (e : n ≤ m) : SpringAt H a m := by
  obtain ⟨w0, w1, w2, h1, h2, h3, h4⟩ := h
  exact ⟨w0, w1, w2, h1, h2, h3, by omega⟩
theorem pow_lt {x : Int} {k n : Nat} (h : x.natAbs < 2 ^ k) (hn : n ≠ 0) : (x ^ n).natAbs < 2 ^ (k * n) := by
  rw [Int.natAbs_pow, Nat.pow_mul]
  exact Nat.pow_lt_pow_left h hn
theorem two_le {a b x : Nat} (h : x < 2 ^ a) (e : a ≤ b) : x < 2 ^ b := Nat.lt_of_lt_of_le h (Nat.pow_le_pow_right (by decide) e)
theorem add_lt {x y : Int} {k : Nat} (h1 : x.natAbs < 2 ^ k) (h2 : y.natAbs < 2 ^ k) : (x + y).natAbs < 2 ^ (k + 1) := by
  have h3 := Int.natAbs_add_le x y
  have h4 : 2 ^ (k + 1) = 2 ^ k + 2 ^ k := by rw [Nat.pow_succ]; omega
  omega
theorem emod_lt2 {x m : Int} {k : Nat} (h0 : 0 < m) (h : m.natAbs < 2 ^ k) : (x % m).natAbs < 2 ^ k := by
  have h1 := Int.emod_nonneg x (show m ≠ 0 by omega)
  have h2 := Int.emod_lt_of_pos x h0
  omega
set_option exponentiation.threshold 20000 in
theorem powW {x j : Int} {k : Nat} (h : x.natAbs < 2 ^ k) (hk : k ≤ 10000) (h1 : 0 ≤ j) (h2 : j ≤ 100) : CPowW x j := ⟨h1, h2, two_le h hk⟩
theorem ten_pow {j : Int} (h1 : 0 ≤ j) (h2 : j ≤ 100) : CPowW 10 j := powW (k := 4) (by decide) (by decide) h1 h2
section
variable {P : Program} {w : World} {K : PySem.W.Frag} {mg : Str → Option Value} {base : Heap}
def sp_law_drop (K : PySem.W.Frag) : Sp := fun vs H Q _ => ∃ (a : Addr) (n : Nat) (many : Int), vs = [.ref a, .int many] ∧ SpringAt H a n ∧ n < 2 ^ 100 ∧ 0 < many ∧ many < 2 ^ 100 ∧
  ∀ H' k, But [a] H H' → SpringAt H' a (n + 1) → 0 ≤ k → k < many → Q (.int k) H'
def sp_law_spring (K : PySem.W.Frag) : Sp := fun vs H Q _ => ∃ (a : Addr) (ns : List Int) (k : Int), vs = [.ref a, .int k] ∧ SqL K H a (ns.map V.int) ∧ 0 ≤ k ∧ k < 100 ∧
  ∀ H' p, H p = none → Same H H' → SpringAt H' p 1 → Q (.ref p) H'
end
end K67

namespace K67
open PySem PySem.Spec PyProof.Rows L2 My
theorem SpringAt.put {H : Hp} {a b : Addr} {n : Nat} {o : HO} (h : SpringAt H a n) (ne : a ≠ b) : SpringAt (upd H b o) a n := by
  obtain ⟨w0, w1, w2, h1, h2⟩ := h
  exact ⟨w0, w1, w2, by rw [upd_ne ne]; exact h1, h2⟩
theorem SpringAt.same {H H' : Hp} {a : Addr} {n : Nat} (s : Same H H') (h : SpringAt H a n) : SpringAt H' a n := by
  obtain ⟨w0, w1, w2, h1, h2⟩ := h
  exact ⟨w0, w1, w2, s _ _ h1, h2⟩
/-- a list of other things stands apart from a spring -/
theorem SpringAt.ne {H : Hp} {a b : Addr} {n : Nat} {o : HO} (h : SpringAt H a n) (hb : H b = some o) (no : ∀ i r, o ≠ .lst (.int i :: r)) : a ≠ b := by
  obtain ⟨w0, w1, w2, h1, _⟩ := h
  exact ne_of h1 hb fun z => no _ _ z.symm
theorem strs_no (ws : List Str) (i : Int) (r : List V) : HO.lst (ws.map V.str) ≠ .lst (.int i :: r) := by
  intro z
  cases ws with
  | nil => cases z
  | cons x l => cases z
theorem refs_no (ws : List Addr) (i : Int) (r : List V) : HO.lst (ws.map V.ref) ≠ .lst (.int i :: r) := by
  intro z
  cases ws with
  | nil => cases z
  | cons x l => cases z
theorem tup_no (ws : List V) (i : Int) (r : List V) : HO.tup ws ≠ .lst (.int i :: r) := fun z => by cases z
/-- a tuple stands as it was behind a change of a spring -/
theorem But.tupS {K : PySem.W.Frag} {H H' : Hp} {a b : Addr} {n : Nat} {xs : List V} (s : But [a] H H') (h : SpringAt H a n) (t : SqT K H b xs) : SqT K H' b xs := by
  obtain ⟨w0, w1, w2, h1, _⟩ := h
  rcases t with (t | ⟨o, t⟩) | t
  · exact .inl (.inl (s _ _ (by simpa using (ne_of t h1 (fun z => by cases z))) t))
  · exact .inl (.inr ⟨o, s _ _ (by simpa using (ne_of t h1 (fun z => by cases z))) t⟩)
  · exact .inr t
theorem lstS {K : PySem.W.Frag} {H H' : Hp} {a b : Addr} {n : Nat} {xs : List V} (s : But [a] H H') (h : SpringAt H a n) (t : SqL K H b xs) (no : ∀ i r, HO.lst xs ≠ .lst (.int i :: r)) : SqL K H' b xs := by
  obtain ⟨w0, w1, w2, h1, _⟩ := h
  rcases t with (t | ⟨o, t⟩) | t
  · exact .inl (.inl (s _ _ (by simpa using (ne_of t h1 (fun z => no _ _ z))) t))
  · exact .inl (.inr ⟨o, s _ _ (by simpa using (ne_of t h1 (fun z => by cases z))) t⟩)
  · exact .inr t
end K67

namespace K67
open PySem PySem.Spec PyProof.Rows L2 My
/-! ### deeds -/
inductive Deed where
  | bring (l s : Bool) | code (p : Int) (t s : Bool) | pass | day | power
  deriving DecidableEq
def Deed.w : Deed → Str
  | .bring _ _ => "bring"
  | .code _ _ _ => "code"
  | .pass => "pass"
  | .day => "day"
  | .power => "power"
def Deed.vs : Deed → List V
  | .bring l s => [.str "bring", .bl l, .bl s]
  | .code p t s => [.str "code", .int p, .bl t, .bl s]
  | .pass => [.str "pass"]
  | .day => [.str "day"]
  | .power => [.str "power"]
def Deed.Ok : Deed → Prop
  | .code p _ _ => 1 ≤ p ∧ p ≤ 1000000000
  | _ => True
def DeedAt (K : PySem.W.Frag) (H : Hp) (v : V) (d : Deed) : Prop := ∃ a, v = .ref a ∧ SqT K H a d.vs
def isBr : Deed → Bool
  | .bring _ _ => true
  | _ => false
def brs (l : List Deed) : Nat := l.countP isBr
def Playable (ds : List Deed) : Prop := ds.length ≤ 100000000 ∧ ∀ i p t s, ds[i]? = some (.code p t s) → 1 ≤ p ∧ p ≤ (brs (ds.take i) : Int)
theorem brs_le (l : List Deed) : brs l ≤ l.length := List.countP_le_length
theorem Playable.ok {ds : List Deed} (h : Playable ds) : ∀ d ∈ ds, d.Ok := by
  intro d hd
  obtain ⟨i, hi⟩ := List.mem_iff_getElem?.mp hd
  cases d with
  | code p t s =>
    obtain ⟨h1, h2⟩ := h.2 i p t s hi
    have h3 := brs_le (ds.take i)
    have h4 : (ds.take i).length ≤ ds.length := by rw [List.length_take]; omega
    have h5 := h.1
    exact ⟨h1, by omega⟩
  | _ => trivial
theorem take_more {α : Type} {l : List α} {i : Nat} {x : α} (h : l[i]? = some x) : l.take (i + 1) = l.take i ++ [x] := by
  rw [List.take_add_one, h]
  rfl
theorem brs_more {l : List Deed} {i : Nat} {d : Deed} (h : l[i]? = some d) : brs (l.take (i + 1)) = brs (l.take i) + (if isBr d then 1 else 0) := by
  unfold brs
  rw [take_more h, List.countP_append, List.countP_singleton]
section
variable {P : Program} {w : World} {K : PySem.W.Frag} {mg : Str → Option Value} {base : Heap}
def sp_are_truths (K : PySem.W.Frag) : Sp := fun vs H Q _ => ∃ (a : Addr) (bs : List Bool), vs = [.ref a] ∧ SqT K H a (bs.map V.bl) ∧ bs.length ≤ 100 ∧ ∀ H', Same H H' → Q (.bl true) H'
set_option maxHeartbeats 2000000 in
theorem ok_are_truths (T : Txt w K mg) {fd : FuncData} (F : FunD K d_are_truths.name d_are_truths.qual d_are_truths.params d_are_truths.body d_are_truths.scope (d_are_truths.dvs K) (d_are_truths.kws K) (He.fAd K d_are_truths.at_) fd) : FnOk P w K mg base C8.CX0 2 (He.fAd K d_are_truths.at_) fd ["values"] (sp_are_truths K) := by
  have c_is_truth := c_is_truth (P := P) (w := w) (base := base) T
  refine F.ok sc_are_truths (fun vs H Q E h => ?_) (fun cdv A outer s H vs Q E hr h => ?_)
  · obtain ⟨a, bs, rfl, _⟩ := h
    rfl
  · have hu := L2.hu_of hr
    obtain ⟨a, bs, rfl, hS, hl, q⟩ := h
    refine ⟨_, (PSs.nox ((pss_one (ps_ret (pe_callB (My.allK (K := K) rfl rfl) (by rfl) T.all (by decide +kernel) (pa_cons (pe_lc (own := [("value", 1)]) (g := (gName 1)) (tt := tYes) (by rfl) sc_are_truths.nd (My.pi_tupK (K := K) rfl (pv 0)) (blkOk_by (N := N_are_truths) (sc := defScope s_are_truths) (by decide +kernel)) (fun _ _ _ _ _ => (pg_name (i := 1) sc_are_truths.nd rfl (by first | exact Or.inl rfl | exact Or.inr rfl))) (fun _ _ _ _ _ => pts_nil) (fun _ _ _ _ _ => (C8.pe_c c_is_truth hr (by decide) rfl (pa_cons (pv 1) pa_nil)))) pa_nil)))))), ?_⟩
    refine ⟨_, rfl, a, rfl, ⟨_, hS⟩, fun D hD => lc_tup (K := K) (a := a) (xs := bs.map V.bl) (fun i H' => Same H H' ∧ H' D = some (.lst ((List.replicate i true).map V.bl))) ⟨same_new hD, upd_same⟩ (fun i H' _ p => same_tup p.1 hS) ?_ ?_⟩
    · rintro i y H2 hi ⟨s2, hD2⟩
      obtain ⟨z, hz, rfl⟩ := map_get hi
      have hlt : i < bs.length := (List.getElem?_eq_some_iff.mp hz).1
      refine ⟨rfl, ?_⟩
      refine ⟨_, rfl, z, rfl, _, hD2, ?_, same_upd s2 hD, ?_⟩
      · rw [List.length_map, List.length_replicate]
        exact Nat.lt_of_lt_of_le (show i < 100 by omega) (by decide)
      · rw [upd_same, List.replicate_succ', List.map_append]
        rfl
    · rintro H2 ⟨s2, hD2⟩
      refine ⟨D, _, rfl, SqL.of hD2, ?_⟩
      have e2 : (List.replicate (bs.map V.bl).length true).all id = true := List.all_eq_true.mpr fun x hx => (List.mem_replicate.mp hx).2
      rw [e2]
      exact q _ s2
theorem c_are_truths (T : Txt w K mg) : C8.Cal P w K mg base 2 "are_truths" (sp_are_truths K) [] := by
  obtain ⟨fd, F⟩ := T.f_are_truths
  exact ⟨_, fd, _, _, ok_are_truths T F, T.g_are_truths, F.kp, F.bindsN (fun _ _ _ _ _ _ us hl => match us, hl with | [_], _ => rfl), .nil⟩
def sp_is_deed (K : PySem.W.Frag) : Sp := fun vs H Q _ => ∃ (v : V) (d : Deed), vs = [v] ∧ DeedAt K H v d ∧ d.Ok ∧ ∀ H', Same H H' → Q (.bl true) H'
def DeedsAt (K : PySem.W.Frag) (H : Hp) (xs : List V) (ds : List Deed) : Prop := Paired (DeedAt K H) xs ds
theorem DeedsAt.same {K : PySem.W.Frag} {H H' : Hp} {xs : List V} {ds : List Deed} (s : Same H H') (h : DeedsAt K H xs ds) : DeedsAt K H' xs ds :=
  paired_map (fun v d _ hd => by
    obtain ⟨a, e, h2⟩ := hd
    exact ⟨a, e, same_tup s h2⟩) h
theorem paired_at {α β : Type} {F : α → β → Prop} : ∀ {l : List α} {m : List β} {i : Nat} {a : α}, Paired F l m → l[i]? = some a → ∃ b, m[i]? = some b ∧ F a b
  | _, _, _, _, .nil, e => by simp at e
  | _, _, 0, _, .cons r _, e => by simp at e; subst e; exact ⟨_, rfl, r⟩
  | _, _, i + 1, _, .cons _ t, e => by
    obtain ⟨a, h1, h2⟩ := paired_at t (by simpa using e)
    exact ⟨a, by simpa using h1, h2⟩
def sp_check_are_deeds (K : PySem.W.Frag) : Sp := fun vs H Q _ => ∃ (a : Addr) (xs : List V) (ds : List Deed), vs = [.ref a] ∧ SqL K H a xs ∧ DeedsAt K H xs ds ∧ (∀ d ∈ ds, d.Ok) ∧ ∀ H', Same H H' → Q .non H'
def sp_check_playable (K : PySem.W.Frag) : Sp := fun vs H Q _ => ∃ (a : Addr) (xs : List V) (ds : List Deed), vs = [.ref a] ∧ SqL K H a xs ∧ DeedsAt K H xs ds ∧ Playable ds ∧ ∀ H', Same H H' → Q .non H'
end
end K67

namespace K67
open PySem PySem.Spec PyProof.Rows L2 My
/-! ### the box: what it is, what a deed does to it -/
structure BoxS where
  ajar : Bool
  inside : List Int
  tf : Str
  valid : List Int
  age : Option Int
  last : Option Int
  sent : List Int
  served : List Int
structure ToldS where
  letters : List Int
  opened : Bool
  got : List Int
  wrongs : List Str
  moments : List Str
def oV : Option Int → V
  | none => .non
  | some i => .int i
def kvT (l : List Int) : List (Key × V) := l.map fun i => (Sum.inl i, V.bl true)
def bxf (S : BoxS) (li dv ds dr : Addr) : List (Str × V) :=
  [("ajar", .bl S.ajar), ("inside", .ref li), ("taken_for", .str S.tf), ("valid", .ref dv), ("age", oV S.age), ("last", oV S.last), ("sent", .ref ds), ("served", .ref dr)]
def tdf (T : ToldS) (yb : Bool) (ll lg lw lm : Addr) : List (Str × V) := [("letters", .ref ll), ("opened", .bl T.opened), ("got", .ref lg), ("lays", .bl yb), ("wrongs", .ref lw), ("moments", .ref lm)]
theorem nd_ne {α : Type} {l : List α} {a b : α} (h : l.Nodup) {i j : Nat} (hi : l[i]? = some a) (hj : l[j]? = some b) (ne : i ≠ j) : a ≠ b := by
  intro e
  subst e
  exact ne (L2.nd_ix h hi hj)
theorem nd_put {α : Type} {l : List α} {p : α} {i : Nat} (h : l.Nodup) (hp : p ∉ l) : (l.set i p).Nodup := by
  induction l generalizing i with
  | nil => simp
  | cons a r ih =>
    rw [List.nodup_cons] at h
    simp only [List.mem_cons, not_or] at hp
    cases i with
    | zero =>
      rw [List.set_cons_zero, List.nodup_cons]
      exact ⟨hp.2, h.2⟩
    | succ i =>
      rw [List.set_cons_succ, List.nodup_cons]
      refine ⟨fun hm => ?_, ih h.2 hp.2⟩
      rcases List.mem_or_eq_of_mem_set hm with z | z
      · exact h.1 z
      · exact hp.1 z.symm
structure BT (K : PySem.W.Frag) (H0 H : Hp) (b dx li dv ds dr : Addr) (S : BoxS) (t dt : Addr) (yb : Bool) (ll lg lw lm : Addr) (T : ToldS) : Prop where
  same : Same H0 H
  nd : [b, li, dv, ds, dr, t, ll, lg, lw, lm].Nodup
  new : ∀ a ∈ [b, li, dv, ds, dr, t, ll, lg, lw, lm], H0 a = none
  hb : H b = some (.ins (He.ga K "Box") dx (bxf S li dv ds dr))
  hli : H li = some (.lst (S.inside.map V.int))
  hdv : H dv = some (.dK (kvT S.valid))
  hds : H ds = some (.dK (kvT S.sent))
  hdr : H dr = some (.dK (kvT S.served))
  ht : H t = some (.ins (He.ga K "Told") dt (tdf T yb ll lg lw lm))
  hll : H ll = some (.lst (T.letters.map V.int))
  hlg : H lg = some (.lst (T.got.map V.int))
  hlw : H lw = some (.lst (T.wrongs.map V.str))
  hlm : H lm = some (.lst (T.moments.map V.str))
section
variable {K : PySem.W.Frag} {H0 H : Hp} {b dx li dv ds dr : Addr} {S S' : BoxS} {t dt : Addr} {yb : Bool} {ll lg lw lm : Addr} {T T' : ToldS}
theorem BT.set_b (h : BT K H0 H b dx li dv ds dr S t dt yb ll lg lw lm T) (e1 : S'.inside = S.inside) (e2 : S'.valid = S.valid) (e3 : S'.sent = S.sent) (e4 : S'.served = S.served) : BT K H0 (upd H b (.ins (He.ga K "Box") dx (bxf S' li dv ds dr))) b dx li dv ds dr S' t dt yb ll lg lw lm T where
  same := same_upd h.same (h.new b (by simp))
  nd := h.nd
  new := h.new
  hb := upd_same
  hli := by rw [upd_ne (nd_ne h.nd (i := 1) (j := 0) rfl rfl (by decide)), e1]; exact h.hli
  hdv := by rw [upd_ne (nd_ne h.nd (i := 2) (j := 0) rfl rfl (by decide)), e2]; exact h.hdv
  hds := by rw [upd_ne (nd_ne h.nd (i := 3) (j := 0) rfl rfl (by decide)), e3]; exact h.hds
  hdr := by rw [upd_ne (nd_ne h.nd (i := 4) (j := 0) rfl rfl (by decide)), e4]; exact h.hdr
  ht := by rw [upd_ne (nd_ne h.nd (i := 5) (j := 0) rfl rfl (by decide))]; exact h.ht
  hll := by rw [upd_ne (nd_ne h.nd (i := 6) (j := 0) rfl rfl (by decide))]; exact h.hll
  hlg := by rw [upd_ne (nd_ne h.nd (i := 7) (j := 0) rfl rfl (by decide))]; exact h.hlg
  hlw := by rw [upd_ne (nd_ne h.nd (i := 8) (j := 0) rfl rfl (by decide))]; exact h.hlw
  hlm := by rw [upd_ne (nd_ne h.nd (i := 9) (j := 0) rfl rfl (by decide))]; exact h.hlm
theorem BT.set_li (h : BT K H0 H b dx li dv ds dr S t dt yb ll lg lw lm T) (e : S' = { S with inside := S'.inside }) : BT K H0 (upd H li (.lst (S'.inside.map V.int))) b dx li dv ds dr S' t dt yb ll lg lw lm T where
  same := same_upd h.same (h.new li (by simp))
  nd := h.nd
  new := h.new
  hb := by rw [upd_ne (nd_ne h.nd (i := 0) (j := 1) rfl rfl (by decide)), e]; exact h.hb
  hli := upd_same
  hdv := by rw [upd_ne (nd_ne h.nd (i := 2) (j := 1) rfl rfl (by decide)), e]; exact h.hdv
  hds := by rw [upd_ne (nd_ne h.nd (i := 3) (j := 1) rfl rfl (by decide)), e]; exact h.hds
  hdr := by rw [upd_ne (nd_ne h.nd (i := 4) (j := 1) rfl rfl (by decide)), e]; exact h.hdr
  ht := by rw [upd_ne (nd_ne h.nd (i := 5) (j := 1) rfl rfl (by decide))]; exact h.ht
  hll := by rw [upd_ne (nd_ne h.nd (i := 6) (j := 1) rfl rfl (by decide))]; exact h.hll
  hlg := by rw [upd_ne (nd_ne h.nd (i := 7) (j := 1) rfl rfl (by decide))]; exact h.hlg
  hlw := by rw [upd_ne (nd_ne h.nd (i := 8) (j := 1) rfl rfl (by decide))]; exact h.hlw
  hlm := by rw [upd_ne (nd_ne h.nd (i := 9) (j := 1) rfl rfl (by decide))]; exact h.hlm
theorem BT.set_dv (h : BT K H0 H b dx li dv ds dr S t dt yb ll lg lw lm T) (e : S' = { S with valid := S'.valid }) : BT K H0 (upd H dv (.dK (kvT S'.valid))) b dx li dv ds dr S' t dt yb ll lg lw lm T where
  same := same_upd h.same (h.new dv (by simp))
  nd := h.nd
  new := h.new
  hb := by rw [upd_ne (nd_ne h.nd (i := 0) (j := 2) rfl rfl (by decide)), e]; exact h.hb
  hli := by rw [upd_ne (nd_ne h.nd (i := 1) (j := 2) rfl rfl (by decide)), e]; exact h.hli
  hdv := upd_same
  hds := by rw [upd_ne (nd_ne h.nd (i := 3) (j := 2) rfl rfl (by decide)), e]; exact h.hds
  hdr := by rw [upd_ne (nd_ne h.nd (i := 4) (j := 2) rfl rfl (by decide)), e]; exact h.hdr
  ht := by rw [upd_ne (nd_ne h.nd (i := 5) (j := 2) rfl rfl (by decide))]; exact h.ht
  hll := by rw [upd_ne (nd_ne h.nd (i := 6) (j := 2) rfl rfl (by decide))]; exact h.hll
  hlg := by rw [upd_ne (nd_ne h.nd (i := 7) (j := 2) rfl rfl (by decide))]; exact h.hlg
  hlw := by rw [upd_ne (nd_ne h.nd (i := 8) (j := 2) rfl rfl (by decide))]; exact h.hlw
  hlm := by rw [upd_ne (nd_ne h.nd (i := 9) (j := 2) rfl rfl (by decide))]; exact h.hlm
theorem BT.set_ds (h : BT K H0 H b dx li dv ds dr S t dt yb ll lg lw lm T) (e : S' = { S with sent := S'.sent }) : BT K H0 (upd H ds (.dK (kvT S'.sent))) b dx li dv ds dr S' t dt yb ll lg lw lm T where
  same := same_upd h.same (h.new ds (by simp))
  nd := h.nd
  new := h.new
  hb := by rw [upd_ne (nd_ne h.nd (i := 0) (j := 3) rfl rfl (by decide)), e]; exact h.hb
  hli := by rw [upd_ne (nd_ne h.nd (i := 1) (j := 3) rfl rfl (by decide)), e]; exact h.hli
  hdv := by rw [upd_ne (nd_ne h.nd (i := 2) (j := 3) rfl rfl (by decide)), e]; exact h.hdv
  hds := upd_same
  hdr := by rw [upd_ne (nd_ne h.nd (i := 4) (j := 3) rfl rfl (by decide)), e]; exact h.hdr
  ht := by rw [upd_ne (nd_ne h.nd (i := 5) (j := 3) rfl rfl (by decide))]; exact h.ht
  hll := by rw [upd_ne (nd_ne h.nd (i := 6) (j := 3) rfl rfl (by decide))]; exact h.hll
  hlg := by rw [upd_ne (nd_ne h.nd (i := 7) (j := 3) rfl rfl (by decide))]; exact h.hlg
  hlw := by rw [upd_ne (nd_ne h.nd (i := 8) (j := 3) rfl rfl (by decide))]; exact h.hlw
  hlm := by rw [upd_ne (nd_ne h.nd (i := 9) (j := 3) rfl rfl (by decide))]; exact h.hlm
theorem BT.set_dr (h : BT K H0 H b dx li dv ds dr S t dt yb ll lg lw lm T) (e : S' = { S with served := S'.served }) : BT K H0 (upd H dr (.dK (kvT S'.served))) b dx li dv ds dr S' t dt yb ll lg lw lm T where
  same := same_upd h.same (h.new dr (by simp))
  nd := h.nd
  new := h.new
  hb := by rw [upd_ne (nd_ne h.nd (i := 0) (j := 4) rfl rfl (by decide)), e]; exact h.hb
  hli := by rw [upd_ne (nd_ne h.nd (i := 1) (j := 4) rfl rfl (by decide)), e]; exact h.hli
  hdv := by rw [upd_ne (nd_ne h.nd (i := 2) (j := 4) rfl rfl (by decide)), e]; exact h.hdv
  hds := by rw [upd_ne (nd_ne h.nd (i := 3) (j := 4) rfl rfl (by decide)), e]; exact h.hds
  hdr := upd_same
  ht := by rw [upd_ne (nd_ne h.nd (i := 5) (j := 4) rfl rfl (by decide))]; exact h.ht
  hll := by rw [upd_ne (nd_ne h.nd (i := 6) (j := 4) rfl rfl (by decide))]; exact h.hll
  hlg := by rw [upd_ne (nd_ne h.nd (i := 7) (j := 4) rfl rfl (by decide))]; exact h.hlg
  hlw := by rw [upd_ne (nd_ne h.nd (i := 8) (j := 4) rfl rfl (by decide))]; exact h.hlw
  hlm := by rw [upd_ne (nd_ne h.nd (i := 9) (j := 4) rfl rfl (by decide))]; exact h.hlm
theorem BT.set_t (h : BT K H0 H b dx li dv ds dr S t dt yb ll lg lw lm T) (e1 : T'.letters = T.letters) (e2 : T'.got = T.got) (e3 : T'.wrongs = T.wrongs) (e4 : T'.moments = T.moments) : BT K H0 (upd H t (.ins (He.ga K "Told") dt (tdf T' yb ll lg lw lm))) b dx li dv ds dr S t dt yb ll lg lw lm T' where
  same := same_upd h.same (h.new t (by simp))
  nd := h.nd
  new := h.new
  hb := by rw [upd_ne (nd_ne h.nd (i := 0) (j := 5) rfl rfl (by decide))]; exact h.hb
  hli := by rw [upd_ne (nd_ne h.nd (i := 1) (j := 5) rfl rfl (by decide))]; exact h.hli
  hdv := by rw [upd_ne (nd_ne h.nd (i := 2) (j := 5) rfl rfl (by decide))]; exact h.hdv
  hds := by rw [upd_ne (nd_ne h.nd (i := 3) (j := 5) rfl rfl (by decide))]; exact h.hds
  hdr := by rw [upd_ne (nd_ne h.nd (i := 4) (j := 5) rfl rfl (by decide))]; exact h.hdr
  ht := upd_same
  hll := by rw [upd_ne (nd_ne h.nd (i := 6) (j := 5) rfl rfl (by decide)), e1]; exact h.hll
  hlg := by rw [upd_ne (nd_ne h.nd (i := 7) (j := 5) rfl rfl (by decide)), e2]; exact h.hlg
  hlw := by rw [upd_ne (nd_ne h.nd (i := 8) (j := 5) rfl rfl (by decide)), e3]; exact h.hlw
  hlm := by rw [upd_ne (nd_ne h.nd (i := 9) (j := 5) rfl rfl (by decide)), e4]; exact h.hlm
theorem BT.set_y (h : BT K H0 H b dx li dv ds dr S t dt yb ll lg lw lm T) (y2 : Bool) : BT K H0 (upd H t (.ins (He.ga K "Told") dt (tdf T y2 ll lg lw lm))) b dx li dv ds dr S t dt y2 ll lg lw lm T where
  same := same_upd h.same (h.new t (by simp))
  nd := h.nd
  new := h.new
  hb := by rw [upd_ne (nd_ne h.nd (i := 0) (j := 5) rfl rfl (by decide))]; exact h.hb
  hli := by rw [upd_ne (nd_ne h.nd (i := 1) (j := 5) rfl rfl (by decide))]; exact h.hli
  hdv := by rw [upd_ne (nd_ne h.nd (i := 2) (j := 5) rfl rfl (by decide))]; exact h.hdv
  hds := by rw [upd_ne (nd_ne h.nd (i := 3) (j := 5) rfl rfl (by decide))]; exact h.hds
  hdr := by rw [upd_ne (nd_ne h.nd (i := 4) (j := 5) rfl rfl (by decide))]; exact h.hdr
  ht := upd_same
  hll := by rw [upd_ne (nd_ne h.nd (i := 6) (j := 5) rfl rfl (by decide))]; exact h.hll
  hlg := by rw [upd_ne (nd_ne h.nd (i := 7) (j := 5) rfl rfl (by decide))]; exact h.hlg
  hlw := by rw [upd_ne (nd_ne h.nd (i := 8) (j := 5) rfl rfl (by decide))]; exact h.hlw
  hlm := by rw [upd_ne (nd_ne h.nd (i := 9) (j := 5) rfl rfl (by decide))]; exact h.hlm
theorem BT.set_ll (h : BT K H0 H b dx li dv ds dr S t dt yb ll lg lw lm T) (e : T' = { T with letters := T'.letters }) : BT K H0 (upd H ll (.lst (T'.letters.map V.int))) b dx li dv ds dr S t dt yb ll lg lw lm T' where
  same := same_upd h.same (h.new ll (by simp))
  nd := h.nd
  new := h.new
  hb := by rw [upd_ne (nd_ne h.nd (i := 0) (j := 6) rfl rfl (by decide))]; exact h.hb
  hli := by rw [upd_ne (nd_ne h.nd (i := 1) (j := 6) rfl rfl (by decide))]; exact h.hli
  hdv := by rw [upd_ne (nd_ne h.nd (i := 2) (j := 6) rfl rfl (by decide))]; exact h.hdv
  hds := by rw [upd_ne (nd_ne h.nd (i := 3) (j := 6) rfl rfl (by decide))]; exact h.hds
  hdr := by rw [upd_ne (nd_ne h.nd (i := 4) (j := 6) rfl rfl (by decide))]; exact h.hdr
  ht := by rw [upd_ne (nd_ne h.nd (i := 5) (j := 6) rfl rfl (by decide)), e]; exact h.ht
  hll := upd_same
  hlg := by rw [upd_ne (nd_ne h.nd (i := 7) (j := 6) rfl rfl (by decide)), e]; exact h.hlg
  hlw := by rw [upd_ne (nd_ne h.nd (i := 8) (j := 6) rfl rfl (by decide)), e]; exact h.hlw
  hlm := by rw [upd_ne (nd_ne h.nd (i := 9) (j := 6) rfl rfl (by decide)), e]; exact h.hlm
theorem BT.set_lg (h : BT K H0 H b dx li dv ds dr S t dt yb ll lg lw lm T) (e : T' = { T with got := T'.got }) : BT K H0 (upd H lg (.lst (T'.got.map V.int))) b dx li dv ds dr S t dt yb ll lg lw lm T' where
  same := same_upd h.same (h.new lg (by simp))
  nd := h.nd
  new := h.new
  hb := by rw [upd_ne (nd_ne h.nd (i := 0) (j := 7) rfl rfl (by decide))]; exact h.hb
  hli := by rw [upd_ne (nd_ne h.nd (i := 1) (j := 7) rfl rfl (by decide))]; exact h.hli
  hdv := by rw [upd_ne (nd_ne h.nd (i := 2) (j := 7) rfl rfl (by decide))]; exact h.hdv
  hds := by rw [upd_ne (nd_ne h.nd (i := 3) (j := 7) rfl rfl (by decide))]; exact h.hds
  hdr := by rw [upd_ne (nd_ne h.nd (i := 4) (j := 7) rfl rfl (by decide))]; exact h.hdr
  ht := by rw [upd_ne (nd_ne h.nd (i := 5) (j := 7) rfl rfl (by decide)), e]; exact h.ht
  hll := by rw [upd_ne (nd_ne h.nd (i := 6) (j := 7) rfl rfl (by decide)), e]; exact h.hll
  hlg := upd_same
  hlw := by rw [upd_ne (nd_ne h.nd (i := 8) (j := 7) rfl rfl (by decide)), e]; exact h.hlw
  hlm := by rw [upd_ne (nd_ne h.nd (i := 9) (j := 7) rfl rfl (by decide)), e]; exact h.hlm
theorem BT.set_lw (h : BT K H0 H b dx li dv ds dr S t dt yb ll lg lw lm T) (e : T' = { T with wrongs := T'.wrongs }) : BT K H0 (upd H lw (.lst (T'.wrongs.map V.str))) b dx li dv ds dr S t dt yb ll lg lw lm T' where
  same := same_upd h.same (h.new lw (by simp))
  nd := h.nd
  new := h.new
  hb := by rw [upd_ne (nd_ne h.nd (i := 0) (j := 8) rfl rfl (by decide))]; exact h.hb
  hli := by rw [upd_ne (nd_ne h.nd (i := 1) (j := 8) rfl rfl (by decide))]; exact h.hli
  hdv := by rw [upd_ne (nd_ne h.nd (i := 2) (j := 8) rfl rfl (by decide))]; exact h.hdv
  hds := by rw [upd_ne (nd_ne h.nd (i := 3) (j := 8) rfl rfl (by decide))]; exact h.hds
  hdr := by rw [upd_ne (nd_ne h.nd (i := 4) (j := 8) rfl rfl (by decide))]; exact h.hdr
  ht := by rw [upd_ne (nd_ne h.nd (i := 5) (j := 8) rfl rfl (by decide)), e]; exact h.ht
  hll := by rw [upd_ne (nd_ne h.nd (i := 6) (j := 8) rfl rfl (by decide)), e]; exact h.hll
  hlg := by rw [upd_ne (nd_ne h.nd (i := 7) (j := 8) rfl rfl (by decide)), e]; exact h.hlg
  hlw := upd_same
  hlm := by rw [upd_ne (nd_ne h.nd (i := 9) (j := 8) rfl rfl (by decide)), e]; exact h.hlm
theorem BT.set_lm (h : BT K H0 H b dx li dv ds dr S t dt yb ll lg lw lm T) (e : T' = { T with moments := T'.moments }) : BT K H0 (upd H lm (.lst (T'.moments.map V.str))) b dx li dv ds dr S t dt yb ll lg lw lm T' where
  same := same_upd h.same (h.new lm (by simp))
  nd := h.nd
  new := h.new
  hb := by rw [upd_ne (nd_ne h.nd (i := 0) (j := 9) rfl rfl (by decide))]; exact h.hb
  hli := by rw [upd_ne (nd_ne h.nd (i := 1) (j := 9) rfl rfl (by decide))]; exact h.hli
  hdv := by rw [upd_ne (nd_ne h.nd (i := 2) (j := 9) rfl rfl (by decide))]; exact h.hdv
  hds := by rw [upd_ne (nd_ne h.nd (i := 3) (j := 9) rfl rfl (by decide))]; exact h.hds
  hdr := by rw [upd_ne (nd_ne h.nd (i := 4) (j := 9) rfl rfl (by decide))]; exact h.hdr
  ht := by rw [upd_ne (nd_ne h.nd (i := 5) (j := 9) rfl rfl (by decide)), e]; exact h.ht
  hll := by rw [upd_ne (nd_ne h.nd (i := 6) (j := 9) rfl rfl (by decide)), e]; exact h.hll
  hlg := by rw [upd_ne (nd_ne h.nd (i := 7) (j := 9) rfl rfl (by decide)), e]; exact h.hlg
  hlw := by rw [upd_ne (nd_ne h.nd (i := 8) (j := 9) rfl rfl (by decide)), e]; exact h.hlw
  hlm := upd_same
theorem BT.new_dv (h : BT K H0 H b dx li dv ds dr S t dt yb ll lg lw lm T) {p : Addr} (hp : H p = none) : BT K H0 (upd (upd H p (.dK [])) b (.ins (He.ga K "Box") dx (bxf { S with valid := [] } li p ds dr))) b dx li p ds dr { S with valid := [] } t dt yb ll lg lw lm T := by
  have hn : p ∉ [b, li, dv, ds, dr, t, ll, lg, lw, lm] := by
    intro z
    simp only [List.mem_cons, List.not_mem_nil, or_false] at z
    rcases z with rfl | rfl | rfl | rfl | rfl | rfl | rfl | rfl | rfl | rfl
    · exact absurd (h.hb.symm.trans hp) (by intro q; cases q)
    · exact absurd (h.hli.symm.trans hp) (by intro q; cases q)
    · exact absurd (h.hdv.symm.trans hp) (by intro q; cases q)
    · exact absurd (h.hds.symm.trans hp) (by intro q; cases q)
    · exact absurd (h.hdr.symm.trans hp) (by intro q; cases q)
    · exact absurd (h.ht.symm.trans hp) (by intro q; cases q)
    · exact absurd (h.hll.symm.trans hp) (by intro q; cases q)
    · exact absurd (h.hlg.symm.trans hp) (by intro q; cases q)
    · exact absurd (h.hlw.symm.trans hp) (by intro q; cases q)
    · exact absurd (h.hlm.symm.trans hp) (by intro q; cases q)
  have nd2 : [b, li, p, ds, dr, t, ll, lg, lw, lm].Nodup := nd_put (i := 2) h.nd hn
  have hpb : p ≠ b := fun z => hn (by rw [z]; simp)
  exact {
    same := same_upd (same_upd h.same (h.same.free hp)) (h.new b (by simp))
    nd := nd2
    new := fun a ha => by
      simp only [List.mem_cons, List.not_mem_nil, or_false] at ha
      rcases ha with rfl | rfl | rfl | rfl | rfl | rfl | rfl | rfl | rfl | rfl
      · exact h.new _ (by simp)
      · exact h.new _ (by simp)
      · exact h.same.free hp
      · exact h.new _ (by simp)
      · exact h.new _ (by simp)
      · exact h.new _ (by simp)
      · exact h.new _ (by simp)
      · exact h.new _ (by simp)
      · exact h.new _ (by simp)
      · exact h.new _ (by simp)
    hb := upd_same
    hli := by rw [upd_ne (nd_ne h.nd (i := 1) (j := 0) rfl rfl (by decide)), upd_ne (fun z => hn (by rw [← z]; simp))]; exact h.hli
    hdv := by rw [upd_ne hpb]; exact upd_same
    hds := by rw [upd_ne (nd_ne h.nd (i := 3) (j := 0) rfl rfl (by decide)), upd_ne (fun z => hn (by rw [← z]; simp))]; exact h.hds
    hdr := by rw [upd_ne (nd_ne h.nd (i := 4) (j := 0) rfl rfl (by decide)), upd_ne (fun z => hn (by rw [← z]; simp))]; exact h.hdr
    ht := by rw [upd_ne (nd_ne h.nd (i := 5) (j := 0) rfl rfl (by decide)), upd_ne (fun z => hn (by rw [← z]; simp))]; exact h.ht
    hll := by rw [upd_ne (nd_ne h.nd (i := 6) (j := 0) rfl rfl (by decide)), upd_ne (fun z => hn (by rw [← z]; simp))]; exact h.hll
    hlg := by rw [upd_ne (nd_ne h.nd (i := 7) (j := 0) rfl rfl (by decide)), upd_ne (fun z => hn (by rw [← z]; simp))]; exact h.hlg
    hlw := by rw [upd_ne (nd_ne h.nd (i := 8) (j := 0) rfl rfl (by decide)), upd_ne (fun z => hn (by rw [← z]; simp))]; exact h.hlw
    hlm := by rw [upd_ne (nd_ne h.nd (i := 9) (j := 0) rfl rfl (by decide)), upd_ne (fun z => hn (by rw [← z]; simp))]; exact h.hlm
  }
theorem BT.hand (h : BT K H0 H b dx li dv ds dr S t dt yb ll lg lw lm T) {p : Addr} (hp : H p = none) : BT K H0 (upd (upd (upd H t (.ins (He.ga K "Told") dt (tdf T yb ll li lw lm))) p (.lst [])) b (.ins (He.ga K "Box") dx (bxf S p dv ds dr))) b dx p dv ds dr { S with inside := [] } t dt yb ll li lw lm { T with got := S.inside } := by
  have hn : p ∉ [b, li, dv, ds, dr, t, ll, lg, lw, lm] := by
    intro z
    simp only [List.mem_cons, List.not_mem_nil, or_false] at z
    rcases z with rfl | rfl | rfl | rfl | rfl | rfl | rfl | rfl | rfl | rfl
    · exact absurd (h.hb.symm.trans hp) (by intro q; cases q)
    · exact absurd (h.hli.symm.trans hp) (by intro q; cases q)
    · exact absurd (h.hdv.symm.trans hp) (by intro q; cases q)
    · exact absurd (h.hds.symm.trans hp) (by intro q; cases q)
    · exact absurd (h.hdr.symm.trans hp) (by intro q; cases q)
    · exact absurd (h.ht.symm.trans hp) (by intro q; cases q)
    · exact absurd (h.hll.symm.trans hp) (by intro q; cases q)
    · exact absurd (h.hlg.symm.trans hp) (by intro q; cases q)
    · exact absurd (h.hlw.symm.trans hp) (by intro q; cases q)
    · exact absurd (h.hlm.symm.trans hp) (by intro q; cases q)
  have nd1 : [b, p, dv, ds, dr, t, ll, lg, lw, lm].Nodup := nd_put (i := 1) h.nd hn
  have nd2 : [b, p, dv, ds, dr, t, ll, li, lw, lm].Nodup := nd_put (i := 7) nd1 (fun z => by
    simp only [List.mem_cons, List.not_mem_nil, or_false] at z
    rcases z with z | z | z | z | z | z | z | z | z | z
    · exact (nd_ne h.nd (i := 1) (j := 0) rfl rfl (by decide)) z
    · exact hn (by rw [← z]; simp)
    · exact (nd_ne h.nd (i := 1) (j := 2) rfl rfl (by decide)) z
    · exact (nd_ne h.nd (i := 1) (j := 3) rfl rfl (by decide)) z
    · exact (nd_ne h.nd (i := 1) (j := 4) rfl rfl (by decide)) z
    · exact (nd_ne h.nd (i := 1) (j := 5) rfl rfl (by decide)) z
    · exact (nd_ne h.nd (i := 1) (j := 6) rfl rfl (by decide)) z
    · exact (nd_ne h.nd (i := 1) (j := 7) rfl rfl (by decide)) z
    · exact (nd_ne h.nd (i := 1) (j := 8) rfl rfl (by decide)) z
    · exact (nd_ne h.nd (i := 1) (j := 9) rfl rfl (by decide)) z)
  have hpb : p ≠ b := fun z => hn (by rw [z]; simp)
  exact {
    same := same_upd (same_upd (same_upd h.same (h.new t (by simp))) (h.same.free hp)) (h.new b (by simp))
    nd := nd2
    new := fun a ha => by
      simp only [List.mem_cons, List.not_mem_nil, or_false] at ha
      rcases ha with rfl | rfl | rfl | rfl | rfl | rfl | rfl | rfl | rfl | rfl
      · exact h.new _ (by simp)
      · exact h.same.free hp
      · exact h.new _ (by simp)
      · exact h.new _ (by simp)
      · exact h.new _ (by simp)
      · exact h.new _ (by simp)
      · exact h.new _ (by simp)
      · exact h.new _ (by simp)
      · exact h.new _ (by simp)
      · exact h.new _ (by simp)
    hb := upd_same
    hli := by rw [upd_ne hpb]; exact upd_same
    hdv := by rw [upd_ne (nd_ne h.nd (i := 2) (j := 0) rfl rfl (by decide)), upd_ne (fun z => hn (by rw [← z]; simp)), upd_ne (nd_ne h.nd (i := 2) (j := 5) rfl rfl (by decide))]; exact h.hdv
    hds := by rw [upd_ne (nd_ne h.nd (i := 3) (j := 0) rfl rfl (by decide)), upd_ne (fun z => hn (by rw [← z]; simp)), upd_ne (nd_ne h.nd (i := 3) (j := 5) rfl rfl (by decide))]; exact h.hds
    hdr := by rw [upd_ne (nd_ne h.nd (i := 4) (j := 0) rfl rfl (by decide)), upd_ne (fun z => hn (by rw [← z]; simp)), upd_ne (nd_ne h.nd (i := 4) (j := 5) rfl rfl (by decide))]; exact h.hdr
    hll := by rw [upd_ne (nd_ne h.nd (i := 6) (j := 0) rfl rfl (by decide)), upd_ne (fun z => hn (by rw [← z]; simp)), upd_ne (nd_ne h.nd (i := 6) (j := 5) rfl rfl (by decide))]; exact h.hll
    hlw := by rw [upd_ne (nd_ne h.nd (i := 8) (j := 0) rfl rfl (by decide)), upd_ne (fun z => hn (by rw [← z]; simp)), upd_ne (nd_ne h.nd (i := 8) (j := 5) rfl rfl (by decide))]; exact h.hlw
    hlm := by rw [upd_ne (nd_ne h.nd (i := 9) (j := 0) rfl rfl (by decide)), upd_ne (fun z => hn (by rw [← z]; simp)), upd_ne (nd_ne h.nd (i := 9) (j := 5) rfl rfl (by decide))]; exact h.hlm
    hlg := by rw [upd_ne (nd_ne h.nd (i := 1) (j := 0) rfl rfl (by decide)), upd_ne (fun z => hn (by rw [← z]; simp)), upd_ne (nd_ne h.nd (i := 1) (j := 5) rfl rfl (by decide))]; exact h.hli
    ht := by rw [upd_ne (nd_ne h.nd (i := 5) (j := 0) rfl rfl (by decide)), upd_ne (fun z => hn (by rw [← z]; simp))]; exact upd_same
  }
end
end K67

namespace K67
open PySem PySem.Spec PyProof.Rows L2 My
/-! ### what the box does, as a function -/
def ins (p : Int) (l : List Int) : List Int := if p ∈ l then l else l ++ [p]
theorem ins_len (p : Int) (l : List Int) : (ins p l).length ≤ l.length + 1 := by
  unfold ins
  split
  · omega
  · simp
theorem kvT_any (l : List Int) (p : Int) : ((kvT l).any fun kv => decide (kv.1 = (Sum.inl p : Key))) = decide (p ∈ l) := by
  induction l with
  | nil => rfl
  | cons a l ih =>
    show (decide ((Sum.inl a : Key) = Sum.inl p) || ((kvT l).any fun kv => decide (kv.1 = (Sum.inl p : Key)))) = _
    rw [ih, key_ll]
    by_cases e : a = p
    · subst e; simp
    · have e2 : ¬ p = a := fun z => e z.symm
      simp [e, e2]
theorem valV_kvT (l : List Int) (p : Int) : (valV (kvT l) (Sum.inl p)).isSome = decide (p ∈ l) := by
  rw [← valV_any, kvT_any]
theorem kvT_len (l : List Int) : (kvT l).length = l.length := by simp [kvT]
theorem putK_kvT (l : List Int) (p : Int) : putK (kvT l) (Sum.inl p) (.bl true) = kvT (ins p l) := by
  unfold putK
  rw [kvT_any]
  unfold ins
  by_cases e : p ∈ l
  · rw [decide_eq_true e, if_pos rfl, if_pos e]
    unfold kvT
    rw [List.map_map]
    refine List.map_congr_left fun a _ => ?_
    show (if (Sum.inl a : Key) = Sum.inl p then _ else _) = _
    split
    · rfl
    · rfl
  · rw [decide_eq_false e, if_neg Bool.false_ne_true, if_neg e]
    unfold kvT
    rw [List.map_append]
    rfl
def sendCode (x : BoxS × ToldS) : BoxS × ToldS :=
  if x.1.tf = "full" then
    match x.1.last with
    | some p => ({ x.1 with valid := ins p x.1.valid, sent := ins p x.1.sent }, { x.2 with letters := x.2.letters ++ [p] })
    | none => x
  else x
def act (x : BoxS × ToldS) (a : Str) : BoxS × ToldS :=
  if a = "code" then sendCode x
  else if a = "void" then ({ x.1 with valid := [] }, x.2)
  else if a = "look" then ({ x.1 with tf := if x.1.inside.isEmpty then "free" else "full" }, x.2)
  else if a = "lock" then ({ x.1 with ajar := false }, x.2)
  else ({ x.1 with tf := a }, x.2)
def carry (r : RuleL) (m : Str) (x : BoxS × ToldS) : BoxS × ToldS := r.foldl act (x.1, { x.2 with moments := x.2.moments ++ [m] })
structure Bd (n : Nat) (x : BoxS × ToldS) : Prop where
  i : x.1.inside.length ≤ n
  v : x.1.valid.length ≤ n
  s : x.1.sent.length ≤ n
  r : x.1.served.length ≤ n
  l : x.2.letters.length ≤ n
  w : x.2.wrongs.length ≤ n
  m : x.2.moments.length ≤ n
theorem Bd.mono {n m : Nat} {x : BoxS × ToldS} (h : Bd n x) (e : n ≤ m) : Bd m x := ⟨Nat.le_trans h.i e, Nat.le_trans h.v e, Nat.le_trans h.s e, Nat.le_trans h.r e, Nat.le_trans h.l e, Nat.le_trans h.w e, Nat.le_trans h.m e⟩
theorem Bd.send {n : Nat} {x : BoxS × ToldS} (h : Bd n x) : Bd (n + 1) (sendCode x) := by
  unfold sendCode
  split
  · split
    · rename_i p _
      have h1 := ins_len p x.1.valid
      have h2 := ins_len p x.1.sent
      refine ⟨Nat.le_succ_of_le h.i, ?_, ?_, Nat.le_succ_of_le h.r, ?_, Nat.le_succ_of_le h.w, Nat.le_succ_of_le h.m⟩
      · have := h.v; show (ins p x.1.valid).length ≤ n + 1; omega
      · have := h.s; show (ins p x.1.sent).length ≤ n + 1; omega
      · have := h.l; show (x.2.letters ++ [p]).length ≤ n + 1; rw [List.length_append]; show x.2.letters.length + 1 ≤ n + 1; omega
    · exact h.mono (Nat.le_succ n)
  · exact h.mono (Nat.le_succ n)
theorem Bd.act {n : Nat} {x : BoxS × ToldS} (h : Bd n x) (a : Str) : Bd (n + 1) (act x a) := by
  unfold K67.act
  have h1 := h.mono (Nat.le_succ n)
  split
  · exact h.send
  · split
    · exact ⟨h1.i, Nat.zero_le _, h1.s, h1.r, h1.l, h1.w, h1.m⟩
    · split
      · exact ⟨h1.i, h1.v, h1.s, h1.r, h1.l, h1.w, h1.m⟩
      · split
        · exact ⟨h1.i, h1.v, h1.s, h1.r, h1.l, h1.w, h1.m⟩
        · exact ⟨h1.i, h1.v, h1.s, h1.r, h1.l, h1.w, h1.m⟩
theorem Bd.foldl (r : RuleL) : ∀ {n : Nat} {x : BoxS × ToldS}, Bd n x → Bd (n + r.length) (r.foldl K67.act x) := by
  induction r with
  | nil => intro n x h; exact h
  | cons a r ih =>
    intro n x h
    have := ih (h.act a)
    rw [List.length_cons, show n + (r.length + 1) = n + 1 + r.length by omega]
    exact this
theorem Bd.mom {n : Nat} {x : BoxS × ToldS} (h : Bd n x) (m : Str) : Bd (n + 1) (x.1, { x.2 with moments := x.2.moments ++ [m] }) := by
  have h1 := h.mono (Nat.le_succ n)
  refine ⟨h1.i, h1.v, h1.s, h1.r, h1.l, h1.w, ?_⟩
  have := h.m
  show (x.2.moments ++ [m]).length ≤ n + 1
  rw [List.length_append]
  show x.2.moments.length + 1 ≤ n + 1
  omega
theorem Bd.carry {n : Nat} {x : BoxS × ToldS} (h : Bd n x) (r : RuleL) (m : Str) : Bd (n + 1 + r.length) (carry r m x) := (h.mom m).foldl r
def BTx (K : PySem.W.Frag) (H0 H : Hp) (b t : Addr) (x : BoxS × ToldS) : Prop := ∃ dx li dv ds dr dt yb ll lg lw lm, BT K H0 H b dx li dv ds dr x.1 t dt yb ll lg lw lm x.2
theorem lt_line {n : Nat} (h : n ≤ 1000000) : n < sizeLine := Nat.lt_of_le_of_lt h (by decide)
section
variable {P : Program} {w : World} {K : PySem.W.Frag} {mg : Str → Option Value} {base : Heap}
def sp_Box_send_code (K : PySem.W.Frag) : Sp := fun vs H Q _ => ∃ (H0 : Hp) (b t : Addr) (x : BoxS × ToldS) (n : Nat), vs = [.ref b, .ref t] ∧ BTx K H0 H b t x ∧ Bd n x ∧ n < 1000000 ∧ ∀ H', BTx K H0 H' b t (sendCode x) → Q .non H'
set_option maxHeartbeats 2000000 in
theorem ok_Box_send_code (T : Txt w K mg) {fd : FuncData} (F : FunD K d_Box_send_code.name d_Box_send_code.qual d_Box_send_code.params d_Box_send_code.body d_Box_send_code.scope (d_Box_send_code.dvs K) (d_Box_send_code.kws K) (He.fAd K d_Box_send_code.at_) fd) : FnOk P w K mg base C8.CX0 1 (He.fAd K d_Box_send_code.at_) fd ["self", "told"] (sp_Box_send_code K) := by
  refine F.ok sc_Box_send_code (fun vs H Q E h => ?_) (fun cdv A outer s H vs Q E hr h => ?_)
  · obtain ⟨H0, b, t, x, n, rfl, _⟩ := h
    rfl
  · have hu := L2.hu_of hr
    obtain ⟨H0, b, t, ⟨S, U⟩, n, rfl, ⟨dx, li, dv, ds, dr, dt, yb, ll, lg, lw, lm, h⟩, bd, hn, q⟩ := h
    refine ⟨_, (PSs.nox ((pss_one (ps_if (PW.pt (pw_and (pt_cmpR op_eq (My.pe_fldK (K := K) rfl (pv 0) rfl) pe_str (nomark _)) (pw_and1 (pt_cmpR op_notN (My.pe_fldK (K := K) rfl (pv 0) rfl) pe_non (nomark _)))))
  (pss_cons (ps_dput hu (My.pe_fldK (K := K) rfl (pv 0) rfl) (My.pe_fldK (K := K) rfl (pv 0) rfl) pe_bl rfl)
  (pss_cons (ps_dput hu (My.pe_fldK (K := K) rfl (pv 0) rfl) (My.pe_fldK (K := K) rfl (pv 0) rfl) pe_bl rfl)
  (pss_one (ps_expr (My.pe_bmK (K := K) rfl PySem.F.plainAttrs_list PySem.F.slot_list_append PySem.F.type_list_append mt_append (My.pe_fldK (K := K) rfl (pv 1) rfl) (pa_cons (My.pe_fldK (K := K) rfl (pv 0) rfl) pa_nil))))))
  pss_nil)))), ?_⟩
    refine ⟨_, rfl, b, _, dx, _, _, rfl, h.hb, T.cl_Box, T.no_Box_taken_for, rfl, rfl, _, rfl, ?_⟩
    by_cases c : S.tf = "full"
    · have e : decide (V.str S.tf = V.str "full") = true := decide_eq_true (congrArg V.str c)
      rw [e]
      refine ⟨_, rfl, b, _, dx, _, _, rfl, h.hb, T.cl_Box, T.no_Box_last, rfl, rfl, _, rfl, ?_⟩
      cases hl : S.last with
      | none =>
        have e0 : sendCode (S, U) = (S, U) := by
          unfold sendCode
          simp only [if_pos c, hl]
        rw [e0] at q
        exact q _ ⟨dx, li, dv, ds, dr, dt, yb, ll, lg, lw, lm, h⟩
      | some p =>
        have e0 : sendCode (S, U) = ({ S with valid := ins p S.valid, sent := ins p S.sent }, { U with letters := U.letters ++ [p] }) := by
          unfold sendCode
          simp only [if_pos c, hl]
        rw [e0] at q
        have hb := h.hb
        refine ⟨_, rfl, b, _, dx, _, _, rfl, hb, T.cl_Box, T.no_Box_valid, rfl, _, rfl, b, _, dx, _, oV S.last, rfl, hb, T.cl_Box, T.no_Box_last, rfl, dv, upd H dv (.dK (kvT (ins p S.valid))), rfl, ?_, ?_⟩
        · rw [hl, ← putK_kvT]
          exact DPut.k (k := Sum.inl p) h.hdv (by rw [kvT_len]; exact lt_line (by have := bd.v; show S.valid.length ≤ 1000000; have z : S.valid.length ≤ n := bd.v; omega))
        have h2 := h.set_dv (S' := { S with valid := ins p S.valid }) rfl
        have hb2 := h2.hb
        refine ⟨_, rfl, b, _, dx, _, _, rfl, hb2, T.cl_Box, T.no_Box_sent, rfl, _, rfl, b, _, dx, _, oV S.last, rfl, hb2, T.cl_Box, T.no_Box_last, rfl, ds, upd (upd H dv (.dK (kvT (ins p S.valid)))) ds (.dK (kvT (ins p S.sent))), rfl, ?_, ?_⟩
        · rw [hl, ← putK_kvT S.sent p]
          exact DPut.k (k := Sum.inl p) h2.hds (by rw [kvT_len]; exact lt_line (by show S.sent.length ≤ 1000000; have z : S.sent.length ≤ n := bd.s; omega))
        have h3 := h2.set_ds (S' := { S with valid := ins p S.valid, sent := ins p S.sent }) rfl
        refine ⟨_, rfl, t, _, dt, _, _, rfl, h3.ht, T.cl_Told, T.no_Told_letters, rfl, .inl ⟨rfl, _, SqL.of h3.hll⟩, _, rfl, b, _, dx, _, oV S.last, rfl, h3.hb, T.cl_Box, T.no_Box_last, rfl, ll, _, _, rfl, rfl, h3.hll, ?_, ?_⟩
        · rw [List.length_map]
          exact lt_line (by show U.letters.length ≤ 1000000; have z : U.letters.length ≤ n := bd.l; omega)
        · have h4 := h3.set_ll (T' := { U with letters := U.letters ++ [p] }) rfl
          have e4 : U.letters.map V.int ++ [oV S.last] = (U.letters ++ [p]).map V.int := by rw [hl, List.map_append]; rfl
          rw [e4]
          exact q _ ⟨dx, li, dv, ds, dr, dt, yb, ll, lg, lw, lm, h4⟩
    · have e : decide (V.str S.tf = V.str "full") = false := decide_eq_false (fun z => c (V.str.inj z))
      rw [e]
      have e0 : sendCode (S, U) = (S, U) := by
        unfold sendCode
        simp only [if_neg c]
      rw [e0] at q
      exact q _ ⟨dx, li, dv, ds, dr, dt, yb, ll, lg, lw, lm, h⟩
theorem c_Box_send_code (T : Txt w K mg) : C8.Met P w K mg base 1 (He.ga K "Box") "_send_code" (sp_Box_send_code K) [] := by
  obtain ⟨fd, F⟩ := T.f_Box_send_code
  exact ⟨_, fd, _, _, T.cl_Box, T.m_Box_send_code, ok_Box_send_code T F, F.bindsN (fun _ _ _ _ _ _ us hl => match us, hl with | [_, _], _ => rfl), .nil⟩
def sp_Box_act (K : PySem.W.Frag) : Sp := fun vs H Q _ => ∃ (H0 : Hp) (b t : Addr) (a : Str) (x : BoxS × ToldS) (n : Nat), vs = [.ref b, .str a, .ref t] ∧ BTx K H0 H b t x ∧ Bd n x ∧ n < 1000000 ∧ ∀ H', BTx K H0 H' b t (act x a) → Q .non H'
theorem str_eqF {a b : Str} (h : ¬ a = b) : decide (V.str a = V.str b) = false := decide_eq_false fun z => h (V.str.inj z)
theorem str_eqT {a b : Str} (h : a = b) : decide (V.str a = V.str b) = true := decide_eq_true (congrArg V.str h)
set_option maxHeartbeats 2000000 in
theorem ok_Box_act (T : Txt w K mg) {fd : FuncData} (F : FunD K d_Box_act.name d_Box_act.qual d_Box_act.params d_Box_act.body d_Box_act.scope (d_Box_act.dvs K) (d_Box_act.kws K) (He.fAd K d_Box_act.at_) fd) : FnOk P w K mg base C8.CX0 2 (He.fAd K d_Box_act.at_) fd ["self", "action", "told"] (sp_Box_act K) := by
  have c_Box_send_code := c_Box_send_code (P := P) (w := w) (base := base) T
  refine F.ok sc_Box_act (fun vs H Q E h => ?_) (fun cdv A outer s H vs Q E hr h => ?_)
  · obtain ⟨H0, b, t, a, x, n, rfl, _⟩ := h
    rfl
  · have hu := L2.hu_of hr
    obtain ⟨H0, b, t, a, ⟨S, U⟩, n, rfl, hx, bd, hn, q⟩ := h
    refine ⟨_, (PSs.nox ((pss_one (ps_if (pt_cmpR op_eq (pv 1) pe_str (nomark _))
  (pss_one (ps_expr (C8.pe_mt c_Box_send_code hr (by decide) (pv 0) (pa_cons (pv 2) pa_nil))))
  (pss_one (ps_if (pt_cmpR op_eq (pv 1) pe_str (nomark _))
  (pss_one (ps_fld (pv 0) pe_dnewK rfl))
  (pss_one (ps_if (pt_cmpR op_eq (pv 1) pe_str (nomark _))
  (pss_one (ps_fld (pv 0) (pe_ifExp (My.pt_truthK (K := K) rfl (My.pe_fldK (K := K) rfl (pv 0) rfl) (by intro _; rfl)) pe_str pe_str) rfl))
  (pss_one (ps_if (pt_cmpR op_eq (pv 1) pe_str (nomark _))
  (pss_one (ps_fld (pv 0) pe_bl rfl))
  (pss_one (ps_fld (pv 0) (pv 1) rfl)))))))))))), ?_⟩
    refine ⟨_, rfl, rfl, _, rfl, ?_⟩
    by_cases c1 : a = "code"
    · rw [str_eqT c1]
      have e0 : act (S, U) a = sendCode (S, U) := by unfold act; rw [if_pos c1]
      rw [e0] at q
      obtain ⟨dx, li, dv, ds, dr, dt, yb, ll, lg, lw, lm, h⟩ := id hx
      exact ⟨_, rfl, b, dx, _, rfl, h.hb, rfl, _, rfl, H0, b, t, (S, U), n, rfl, hx, bd, hn, q⟩
    rw [str_eqF c1]
    obtain ⟨dx, li, dv, ds, dr, dt, yb, ll, lg, lw, lm, h⟩ := id hx
    refine ⟨_, rfl, rfl, _, rfl, ?_⟩
    by_cases c2 : a = "void"
    · rw [str_eqT c2]
      have e0 : act (S, U) a = ({ S with valid := [] }, U) := by unfold act; rw [if_neg c1, if_pos c2]
      rw [e0] at q
      refine fun p hp => ?_
      have npb : b ≠ p := ne_of_none h.hb hp
      refine ⟨_, rfl, b, _, dx, _, rfl, (by rw [upd_ne npb]; exact h.hb), T.cl_Box, T.no_Box_valid, (by show 8 < 1000; decide), ?_⟩
      exact q _ ⟨dx, li, p, ds, dr, dt, yb, ll, lg, lw, lm, h.new_dv hp⟩
    rw [str_eqF c2]
    refine ⟨_, rfl, rfl, _, rfl, ?_⟩
    by_cases c3 : a = "look"
    · rw [str_eqT c3]
      have e0 : act (S, U) a = ({ S with tf := if S.inside.isEmpty then "free" else "full" }, U) := by unfold act; rw [if_neg c1, if_neg c2, if_pos c3]
      rw [e0] at q
      refine ⟨_, rfl, b, _, dx, _, _, rfl, h.hb, T.cl_Box, T.no_Box_inside, rfl, !(S.inside.map V.int).isEmpty, .inl ⟨_, SqL.of h.hli, rfl⟩, ?_⟩
      have h1 := h.set_b (S' := { S with tf := if S.inside.isEmpty then "free" else "full" }) rfl rfl rfl rfl
      rw [List.isEmpty_map]
      cases c : S.inside.isEmpty with
      | true =>
        rw [c] at h1 q
        exact ⟨_, rfl, b, _, dx, _, rfl, h.hb, T.cl_Box, T.no_Box_taken_for, (by show 8 < 1000; decide), q _ ⟨dx, li, dv, ds, dr, dt, yb, ll, lg, lw, lm, h1⟩⟩
      | false =>
        rw [c] at h1 q
        exact ⟨_, rfl, b, _, dx, _, rfl, h.hb, T.cl_Box, T.no_Box_taken_for, (by show 8 < 1000; decide), q _ ⟨dx, li, dv, ds, dr, dt, yb, ll, lg, lw, lm, h1⟩⟩
    rw [str_eqF c3]
    refine ⟨_, rfl, rfl, _, rfl, ?_⟩
    by_cases c4 : a = "lock"
    · rw [str_eqT c4]
      have e0 : act (S, U) a = ({ S with ajar := false }, U) := by unfold act; rw [if_neg c1, if_neg c2, if_neg c3, if_pos c4]
      rw [e0] at q
      have h1 := h.set_b (S' := { S with ajar := false }) rfl rfl rfl rfl
      exact ⟨_, rfl, b, _, dx, _, rfl, h.hb, T.cl_Box, T.no_Box_ajar, (by show 8 < 1000; decide), q _ ⟨dx, li, dv, ds, dr, dt, yb, ll, lg, lw, lm, h1⟩⟩
    rw [str_eqF c4]
    have e0 : act (S, U) a = ({ S with tf := a }, U) := by unfold act; rw [if_neg c1, if_neg c2, if_neg c3, if_neg c4]
    rw [e0] at q
    have h1 := h.set_b (S' := { S with tf := a }) rfl rfl rfl rfl
    exact ⟨_, rfl, _, rfl, b, _, dx, _, rfl, h.hb, T.cl_Box, T.no_Box_taken_for, (by show 8 < 1000; decide), q _ ⟨dx, li, dv, ds, dr, dt, yb, ll, lg, lw, lm, h1⟩⟩
theorem c_Box_act (T : Txt w K mg) : C8.Met P w K mg base 2 (He.ga K "Box") "_act" (sp_Box_act K) [] := by
  obtain ⟨fd, F⟩ := T.f_Box_act
  exact ⟨_, fd, _, _, T.cl_Box, T.m_Box_act, ok_Box_act T F, F.bindsN (fun _ _ _ _ _ _ us hl => match us, hl with | [_, _, _], _ => rfl), .nil⟩
def sp_Box_carry_out (K : PySem.W.Frag) : Sp := fun vs H Q _ => ∃ (H0 : Hp) (b t k : Addr) (m : Str) (i : Nat) (r : RuleL) (d : Int) (rs : List RuleL) (x : BoxS × ToldS) (n : Nat), vs = [.ref b, .ref k, .str m, .ref t] ∧ BTx K H0 H b t x ∧ BookAt K H0 k d rs ∧ moms[i]? = some m ∧ rs[i]? = some r ∧
  r.length ≤ 6 ∧ Bd n x ∧ n < 999900 ∧ ∀ H', BTx K H0 H' b t (carry r m x) → Q .non H'
theorem BTx.same {K : PySem.W.Frag} {H0 H : Hp} {b t : Addr} {x : BoxS × ToldS} (h : BTx K H0 H b t x) : Same H0 H := by
  obtain ⟨dx, li, dv, ds, dr, dt, yb, ll, lg, lw, lm, h⟩ := h
  exact h.same
set_option maxHeartbeats 2000000 in
theorem ok_Box_carry_out (T : Txt w K mg) {fd : FuncData} (F : FunD K d_Box_carry_out.name d_Box_carry_out.qual d_Box_carry_out.params d_Box_carry_out.body d_Box_carry_out.scope (d_Box_carry_out.dvs K) (d_Box_carry_out.kws K) (He.fAd K d_Box_carry_out.at_) fd) : FnOk P w K mg base C8.CX0 3 (He.fAd K d_Box_carry_out.at_) fd ["self", "book", "moment", "told"] (sp_Box_carry_out K) := by
  have c_Book_rule := c_Book_rule (P := P) (w := w) (base := base) T
  have c_Box_act := c_Box_act (P := P) (w := w) (base := base) T
  refine F.ok sc_Box_carry_out (fun vs H Q E h => ?_) (fun cdv A outer s H vs Q E hr h => ?_)
  · obtain ⟨H0, b, t, k, m, i, r, d, rs, x, n, rfl, _⟩ := h
    rfl
  · have hu := L2.hu_of hr
    obtain ⟨H0, b, t, k, m, i, r, d, rs, ⟨S, U⟩, n, rfl, hx, hk, hm, hr1, h6, bd, hn, q⟩ := h
    refine ⟨_, (PSs.nox ((pss_cons (ps_expr (My.pe_bmK (K := K) rfl PySem.F.plainAttrs_list PySem.F.slot_list_append PySem.F.type_list_append mt_append (My.pe_fldK (K := K) rfl (pv 3) rfl) (pa_cons (pv 2) pa_nil)))
  (pss_one (ps_for PassesOwn.never rfl (My.pi_tupK (K := K) rfl (C8.pe_mt c_Book_rule hr (by decide) (pv 1) (pa_cons (pv 2) pa_nil))) (pg_name (i := 4) sc_Box_carry_out.nd rfl (by first | exact Or.inl rfl | exact Or.inr rfl))
  (pss_one (ps_expr (C8.pe_mt c_Box_act hr (by decide) (pv 0) (pa_cons (pv 4) (pa_cons (pv 3) pa_nil)))))))))), ?_⟩
    obtain ⟨dx, li, dv, ds, dr, dt, yb, ll, lg, lw, lm, h⟩ := id hx
    refine ⟨_, rfl, t, _, dt, _, _, rfl, h.ht, T.cl_Told, T.no_Told_moments, rfl, .inl ⟨rfl, _, SqL.of h.hlm⟩, _, rfl, lm, _, _, rfl, rfl, h.hlm, ?_, ?_⟩
    · rw [List.length_map]
      exact lt_line (by show U.moments.length ≤ 1000000; have z : U.moments.length ≤ n := bd.m; omega)
    have h1 := h.set_lm (T' := { U with moments := U.moments ++ [m] }) rfl
    have e4 : U.moments.map V.str ++ [V.str m] = (U.moments ++ [m]).map V.str := by rw [List.map_append]; rfl
    rw [e4]
    have hx1 : BTx K H0 (upd H lm (.lst ((U.moments ++ [m]).map V.str))) b t (S, { U with moments := U.moments ++ [m] }) := ⟨dx, li, dv, ds, dr, dt, yb, ll, lg, lw, lm, h1⟩
    obtain ⟨dk, tk, ak, hkb, _⟩ := id (hk.same hx1.same)
    refine ⟨_, rfl, k, dk, _, rfl, hkb, rfl, _, rfl, H0, k, d, rs, m, i, r, rfl, hx1.same, hk, hm, hr1, fun a ha => ?_⟩
    have hbd : ∀ j, Bd (n + 1 + j) ((r.take j).foldl act (S, { U with moments := U.moments ++ [m] })) := fun j => (((bd.mom m).foldl (r.take j)).mono (by rw [List.length_take]; omega))
    refine ⟨a, rfl, ⟨_, same_tup hx1.same ha⟩, for_tup (K := K) (xs := r.map V.str) (fun j σ H' => ∃ u, σ = [some (.ref b), some (.ref k), some (.str m), some (.ref t), u] ∧ BTx K H0 H' b t ((r.take j).foldl act (S, { U with moments := U.moments ++ [m] }))) ⟨_, rfl, hx1⟩ (fun j σ H' _ ⟨_, _, z⟩ => same_tup z.same ha) ?_ ?_⟩
    · rintro j y σ H2 hj ⟨u, rfl, hx2⟩
      obtain ⟨z, hz, rfl⟩ := map_get hj
      have hlt : j < r.length := (List.getElem?_eq_some_iff.mp hz).1
      obtain ⟨dx2, li2, dv2, ds2, dr2, dt2, yb2, ll2, lg2, lw2, lm2, h2⟩ := id hx2
      refine ⟨_, rfl, b, dx2, _, rfl, h2.hb, rfl, _, rfl, _, rfl, H0, b, t, z, _, n + 1 + j, rfl, hx2, hbd j, by omega, fun H3 hx3 => ?_⟩
      refine ⟨_, rfl, ?_⟩
      rw [take_more hz, List.foldl_append]
      exact hx3
    · rintro σ H2 ⟨u, rfl, hx2⟩
      rw [List.length_map, List.take_length] at hx2
      exact q _ hx2
theorem c_Box_carry_out (T : Txt w K mg) : C8.Met P w K mg base 3 (He.ga K "Box") "_carry_out" (sp_Box_carry_out K) [] := by
  obtain ⟨fd, F⟩ := T.f_Box_carry_out
  exact ⟨_, fd, _, _, T.cl_Box, T.m_Box_carry_out, ok_Box_carry_out T F, F.bindsN (fun _ _ _ _ _ _ us hl => match us, hl with | [_, _, _, _], _ => rfl), .nil⟩
/-- the last step of a bring, a code -/
def goAway (sh : Bool) (m1 m2 : Str) (r1 r2 : RuleL) (x : BoxS × ToldS) : BoxS × ToldS :=
  if x.1.ajar = true then (if sh = true then carry r1 m1 ({ x.1 with ajar := false }, x.2) else carry r2 m2 x) else x
theorem Bd.go {n : Nat} {x : BoxS × ToldS} (h : Bd n x) {sh : Bool} {m1 m2 : Str} {r1 r2 : RuleL} (h1 : r1.length ≤ 6) (h2 : r2.length ≤ 6) : Bd (n + 7) (goAway sh m1 m2 r1 r2 x) := by
  unfold goAway
  split
  · split
    · exact (Bd.carry (x := ({ x.1 with ajar := false }, x.2)) ⟨h.i, h.v, h.s, h.r, h.l, h.w, h.m⟩ r1 m1).mono (by omega)
    · exact (h.carry r2 m2).mono (by omega)
  · exact h.mono (by omega)
def sp_Box_go_away (K : PySem.W.Frag) : Sp := fun vs H Q _ => ∃ (H0 : Hp) (b t k g : Addr) (sh : Bool) (m1 m2 : Str) (i1 i2 : Nat) (r1 r2 : RuleL) (d : Int) (rs : List RuleL) (x : BoxS × ToldS) (n : Nat), vs = [.ref b, .ref k, .bl sh, .ref g, .ref t] ∧ BTx K H0 H b t x ∧ BookAt K H0 k d rs ∧
  SqT K H g [.str m1, .str m2] ∧ moms[i1]? = some m1 ∧ rs[i1]? = some r1 ∧ r1.length ≤ 6 ∧ moms[i2]? = some m2 ∧ rs[i2]? = some r2 ∧ r2.length ≤ 6 ∧ Bd n x ∧ n < 999000 ∧ ∀ H', BTx K H0 H' b t (goAway sh m1 m2 r1 r2 x) → Q .non H'
set_option maxHeartbeats 2000000 in
theorem ok_Box_go_away (T : Txt w K mg) {fd : FuncData} (F : FunD K d_Box_go_away.name d_Box_go_away.qual d_Box_go_away.params d_Box_go_away.body d_Box_go_away.scope (d_Box_go_away.dvs K) (d_Box_go_away.kws K) (He.fAd K d_Box_go_away.at_) fd) : FnOk P w K mg base C8.CX0 4 (He.fAd K d_Box_go_away.at_) fd ["self", "book", "shuts", "moments", "told"] (sp_Box_go_away K) := by
  have c_Box_carry_out := c_Box_carry_out (P := P) (w := w) (base := base) T
  refine F.ok sc_Box_go_away (fun vs H Q E h => ?_) (fun cdv A outer s H vs Q E hr h => ?_)
  · obtain ⟨H0, b, t, k, g, sh, m1, m2, i1, i2, r1, r2, d, rs, x, n, rfl, _⟩ := h
    rfl
  · have hu := L2.hu_of hr
    obtain ⟨H0, b, t, k, g, sh, m1, m2, i1, i2, r1, r2, d, rs, ⟨S, U⟩, n, rfl, hx, hk, hg, hm1, hr1, hl1, hm2, hr2, hl2, bd, hn, q⟩ := h
    refine ⟨_, (PSs.nox ((pss_cons (ps_if (pt_not (pt_val (My.pe_fldK (K := K) rfl (pv 0) rfl)))
  (pss_one ps_retN)
  pss_nil)
  (pss_cons (ps_asg (pv 3) (My.pg_tupK (K := K) (n := 2) rfl rfl (pgs_cons (pg_name (i := 5) sc_Box_go_away.nd rfl (by first | exact Or.inl rfl | exact Or.inr rfl)) (pgs_cons (pg_name (i := 6) sc_Box_go_away.nd rfl (by first | exact Or.inl rfl | exact Or.inr rfl)) pgs_nil))))
  (pss_one (ps_if (pt_val (pv 2))
  (pss_cons (ps_fld (pv 0) pe_bl rfl)
  (pss_one (ps_expr (C8.pe_mt c_Box_carry_out hr (by decide) (pv 0) (pa_cons (pv 1) (pa_cons (pv 5) (pa_cons (pv 4) pa_nil)))))))
  (pss_one (ps_expr (C8.pe_mt c_Box_carry_out hr (by decide) (pv 0) (pa_cons (pv 1) (pa_cons (pv 6) (pa_cons (pv 4) pa_nil)))))))))))), ?_⟩
    obtain ⟨dx, li, dv, ds, dr, dt, yb, ll, lg, lw, lm, h⟩ := id hx
    refine ⟨_, rfl, b, _, dx, _, _, rfl, h.hb, T.cl_Box, T.no_Box_ajar, rfl, _, rfl, ?_⟩
    unfold goAway at q
    have e1 : S.ajar = (S, U).1.ajar := rfl
    cases c : S.ajar with
    | false =>
      rw [if_neg (by rw [← e1, c]; exact Bool.false_ne_true)] at q
      exact q _ hx
    | true =>
      rw [if_pos (by rw [← e1, c])] at q
      refine ⟨_, rfl, g, _, rfl, hg, rfl, _, _, rfl, _, _, rfl, rfl, ?_⟩
      refine ⟨_, rfl, _, rfl, ?_⟩
      cases sh with
      | true =>
        rw [if_pos rfl] at q
        refine ⟨_, rfl, b, _, dx, _, rfl, h.hb, T.cl_Box, T.no_Box_ajar, (by show 8 < 1000; decide), ?_⟩
        have h1 := h.set_b (S' := { S with ajar := false }) rfl rfl rfl rfl
        have hx1 : BTx K H0 _ b t ({ S with ajar := false }, U) := ⟨dx, li, dv, ds, dr, dt, yb, ll, lg, lw, lm, h1⟩
        exact ⟨_, rfl, b, dx, _, rfl, upd_same, rfl, _, rfl, _, rfl, _, rfl, H0, b, t, k, m1, i1, r1, d, rs, _, n, rfl, hx1, hk, hm1, hr1, hl1, ⟨bd.i, bd.v, bd.s, bd.r, bd.l, bd.w, bd.m⟩, by omega, q⟩
      | false =>
        rw [if_neg Bool.false_ne_true] at q
        exact ⟨_, rfl, b, dx, _, rfl, h.hb, rfl, _, rfl, _, rfl, _, rfl, H0, b, t, k, m2, i2, r2, d, rs, _, n, rfl, hx, hk, hm2, hr2, hl2, bd, by omega, q⟩
theorem c_Box_go_away (T : Txt w K mg) : C8.Met P w K mg base 4 (He.ga K "Box") "_go_away" (sp_Box_go_away K) [] := by
  obtain ⟨fd, F⟩ := T.f_Box_go_away
  exact ⟨_, fd, _, _, T.cl_Box, T.m_Box_go_away, ok_Box_go_away T F, F.bindsN (fun _ _ _ _ _ _ us hl => match us, hl with | [_, _, _, _, _], _ => rfl), .nil⟩
/-- somebody takes all that lies here -/
def letTake (own : Option Int) (x : BoxS × ToldS) : BoxS × ToldS :=
  ({ x.1 with inside := [], served := match own with
      | some p => if p ∈ x.1.inside then ins p x.1.served else x.1.served
      | none => x.1.served },
   { x.2 with got := x.1.inside, wrongs := if x.1.inside.any (fun p => decide (some p ≠ own)) = true then x.2.wrongs ++ [("wrong" : Str)] else x.2.wrongs })
theorem Bd.take {n : Nat} {x : BoxS × ToldS} (h : Bd n x) (own : Option Int) : Bd (n + 1) (letTake own x) := by
  have h1 := h.mono (Nat.le_succ n)
  refine ⟨Nat.zero_le _, h1.v, h1.s, ?_, h1.l, ?_, h1.m⟩
  · have := h.r
    unfold letTake
    cases own with
    | none => exact h1.r
    | some p =>
      show (if p ∈ x.1.inside then ins p x.1.served else x.1.served).length ≤ n + 1
      have := ins_len p x.1.served
      split <;> omega
  · have := h.w
    show (if x.1.inside.any (fun p => decide (some p ≠ own)) = true then x.2.wrongs ++ [("wrong" : Str)] else x.2.wrongs).length ≤ n + 1
    split
    · rw [List.length_append]
      show x.2.wrongs.length + 1 ≤ n + 1
      omega
    · omega
end
end K67

namespace K67
open PySem PySem.Spec PyProof.Rows L2 My
theorem inV_int (p : Int) (l : List Int) : inV (.int p) (l.map V.int) = decide (p ∈ l) := by
  induction l with
  | nil => rfl
  | cons a l ih =>
    show (eqV (.int a) (.int p) || inV (.int p) (l.map V.int)) = _
    rw [ih]
    show ((a == p) || decide (p ∈ l)) = _
    by_cases e : a = p
    · subst e; simp
    · have e2 : ¬ p = a := fun z => e z.symm
      simp [e, e2]
theorem inV_non (l : List Int) : inV .non (l.map V.int) = false := by
  induction l with
  | nil => rfl
  | cons a l ih =>
    show (eqV (.int a) .non || inV .non (l.map V.int)) = _
    rw [ih]
    rfl
theorem all_flat_int (l : List Int) : (l.map V.int).all flatV = true := by
  rw [List.all_map]
  exact List.all_eq_true.mpr fun _ _ => rfl
theorem BT.to {K : PySem.W.Frag} {H0 H H' : Hp} {b dx li dv ds dr : Addr} {S : BoxS} {t dt : Addr} {yb : Bool} {ll lg lw lm : Addr} {U : ToldS} (h : BT K H0 H b dx li dv ds dr S t dt yb ll lg lw lm U) (s : Same H H') : BT K H0 H' b dx li dv ds dr S t dt yb ll lg lw lm U :=
  ⟨h.same.trans s, h.nd, h.new, s _ _ h.hb, s _ _ h.hli, s _ _ h.hdv, s _ _ h.hds, s _ _ h.hdr, s _ _ h.ht, s _ _ h.hll, s _ _ h.hlg, s _ _ h.hlw, s _ _ h.hlm⟩
section
variable {P : Program} {w : World} {K : PySem.W.Frag} {mg : Str → Option Value} {base : Heap}
def sp_Box_let_take (K : PySem.W.Frag) : Sp := fun vs H Q _ => ∃ (H0 : Hp) (b t : Addr) (own : Option Int) (x : BoxS × ToldS) (n : Nat), vs = [.ref b, oV own, .ref t] ∧ BTx K H0 H b t x ∧ Bd n x ∧ n < 999000 ∧ ∀ H', BTx K H0 H' b t (letTake own x) → Q .non H'
set_option maxHeartbeats 2000000 in
theorem ok_Box_let_take (T : Txt w K mg) {fd : FuncData} (F : FunD K d_Box_let_take.name d_Box_let_take.qual d_Box_let_take.params d_Box_let_take.body d_Box_let_take.scope (d_Box_let_take.dvs K) (d_Box_let_take.kws K) (He.fAd K d_Box_let_take.at_) fd) : FnOk P w K mg base C8.CX0 1 (He.fAd K d_Box_let_take.at_) fd ["self", "own", "told"] (sp_Box_let_take K) := by
  refine F.ok sc_Box_let_take (fun vs H Q E h => ?_) (fun cdv A outer s H vs Q E hr h => ?_)
  · obtain ⟨H0, b, t, own, x, n, rfl, _⟩ := h
    rfl
  · have hu := L2.hu_of hr
    obtain ⟨H0, b, t, own, ⟨S, U⟩, n, rfl, ⟨dx, li, dv, ds, dr, dt, yb, ll, lg, lw, lm, h⟩, bd, hn, q⟩ := h
    refine ⟨_, (PSs.nox ((pss_cons (ps_fld (pv 2) (My.pe_fldK (K := K) rfl (pv 0) rfl) rfl)
  (pss_cons (ps_fld (pv 0) (pe_lst pa_nil) rfl)
  (pss_cons (ps_if (pt_cmpR (My.in_seqK (K := K) rfl) (pv 1) (My.pe_fldK (K := K) rfl (pv 2) rfl) (by rfl))
  (pss_one (ps_dput hu (My.pe_fldK (K := K) rfl (pv 0) rfl) (pv 1) pe_bl rfl))
  pss_nil)
  (pss_one (ps_if (pt_val (pe_callB (My.anyK (K := K) rfl rfl) (by rfl) T.any (by decide +kernel) (pa_cons (pe_lc (own := [("parcel", 3)]) (g := (gName 3)) (tt := tYes) (by rfl) sc_Box_let_take.nd (My.pi_listK (K := K) rfl (My.pe_fldK (K := K) rfl (pv 2) rfl)) (blkOk_by (N := N_Box_let_take) (sc := defScope s_Box_let_take) (by decide +kernel)) (fun _ _ _ _ _ => (pg_name (i := 3) sc_Box_let_take.nd rfl (by first | exact Or.inl rfl | exact Or.inr rfl))) (fun _ _ _ _ _ => pts_nil) (fun _ _ _ _ _ => (pe_cmpR op_ne (pv 3) (pv 1) (nomark _)))) pa_nil)))
  (pss_one (ps_expr (My.pe_bmK (K := K) rfl PySem.F.plainAttrs_list PySem.F.slot_list_append PySem.F.type_list_append mt_append (My.pe_fldK (K := K) rfl (pv 2) rfl) (pa_cons pe_str pa_nil))))
  pss_nil))))))), ?_⟩
    have nbt : b ≠ t := nd_ne h.nd (i := 0) (j := 5) rfl rfl (by decide)
    refine ⟨_, rfl, b, _, dx, _, _, rfl, h.hb, T.cl_Box, T.no_Box_inside, rfl, _, rfl, t, _, dt, _, rfl, h.ht, T.cl_Told, T.no_Told_got, (by show 6 < 1000; decide), ?_⟩
    refine ⟨Nat.zero_le _, fun p hp => ?_⟩
    have npt : p ≠ t := by
      intro z
      rw [z, upd_same] at hp
      cases hp
    rw [upd_ne npt] at hp
    have h1 := h.hand hp
    have npb : b ≠ p := ne_of_none h.hb hp
    refine ⟨_, rfl, b, _, dx, _, rfl, (by rw [upd_ne npb, upd_ne nbt]; exact h.hb), T.cl_Box, T.no_Box_inside, (by show 8 < 1000; decide), ?_⟩
    refine ⟨_, rfl, _, rfl, t, _, dt, _, _, rfl, h1.ht, T.cl_Told, T.no_Told_got, rfl, li, _, rfl, .inl (SqL.of h1.hlg), ?_, all_flat_int _, _, rfl, ?_⟩
    · cases own <;> rfl
    let W : List Str := if S.inside.any (fun p => decide (some p ≠ own)) = true then U.wrongs ++ [("wrong" : Str)] else U.wrongs
    -- what is left: any(..), wrongs.append
    have last : ∀ (H1 : Hp) (S1 : BoxS), BT K H0 H1 b dx p dv ds dr S1 t dt yb ll li lw lm { U with got := S.inside } →
        (∀ H', BTx K H0 H' b t (S1, { U with got := S.inside, wrongs := W }) → Q .non H') →
        tIfS (tB (tCB (rAny K) (tCons (tLc (iList K (tFld K (tVar 2) "got")) (gName 3) tYes (tOp rNe (tVar 3) (tVar 1)) [3]) tNil))) (tSeq (tDrop (tBM K "list" rAppend (tFld K (tVar 2) "wrongs") (tCons (tC (.str "wrong")) tNil))) tNext) tNext
          { nx := fun _ H' => Q .non H', rt := Q } [some (.ref b), some (oV own), some (.ref t), none] H1 := by
      intro H1 S1 h2 q2
      have sl := h2.hlg
      refine ⟨_, rfl, t, _, dt, _, _, rfl, h2.ht, T.cl_Told, T.no_Told_got, rfl, li, rfl, ⟨_, SqL.of sl⟩, fun D hD => lc_list (K := K) (a := li) (xs := S.inside.map V.int) (fun i H' => Same H1 H' ∧ H' D = some (.lst (((S.inside.take i).map (fun p => decide (some p ≠ own))).map V.bl))) ⟨same_new hD, upd_same⟩ (fun i H' _ z => SqL.of (z.1 _ _ sl)) ?_ ?_⟩
      · rintro i y H2 hi ⟨s2, hD2⟩
        obtain ⟨z, hz, rfl⟩ := map_get hi
        refine ⟨rfl, ?_⟩
        refine ⟨_, rfl, _, rfl, by cases own <;> rfl, _, hD2, ?_, same_upd s2 hD, ?_⟩
        · rw [List.length_map, List.length_map, List.length_take]
          have zz : S.inside.length ≤ n := bd.i
          exact lt_line (by omega)
        · rw [upd_same, take_more hz, List.map_append, List.map_append]
          have e : (!decide (V.int z = oV own)) = decide (some z ≠ own) := by
            cases own with
            | none => rfl
            | some k =>
              by_cases c : z = k
              · subst c
                simp [oV]
              · have c2 : ¬ V.int z = V.int k := fun e => c (V.int.inj e)
                simp [oV, c, c2]
          rw [e]
          rfl
      · rintro H2 ⟨s2, hD2⟩
        rw [List.length_map, List.take_length] at hD2
        refine ⟨D, _, rfl, SqL.of hD2, _, rfl, ?_⟩
        have h3 := h2.to s2
        have e : (S.inside.map (fun p => decide (some p ≠ own))).any id = S.inside.any (fun p => decide (some p ≠ own)) := by rw [List.any_map]; rfl
        rw [e]
        cases c : S.inside.any (fun p => decide (some p ≠ own)) with
        | false =>
          have eW : W = U.wrongs := if_neg (by rw [c]; exact Bool.false_ne_true)
          rw [eW] at q2
          exact q2 _ ⟨dx, p, dv, ds, dr, dt, yb, ll, li, lw, lm, h3⟩
        | true =>
          have eW : W = U.wrongs ++ [("wrong" : Str)] := if_pos c
          rw [eW] at q2
          refine ⟨_, rfl, t, _, dt, _, _, rfl, h3.ht, T.cl_Told, T.no_Told_wrongs, rfl, .inl ⟨rfl, _, SqL.of h3.hlw⟩, lw, _, _, rfl, rfl, h3.hlw, ?_, ?_⟩
          · have zz : U.wrongs.length ≤ n := bd.w
            rw [List.length_map]
            exact lt_line (by show U.wrongs.length ≤ 1000000; omega)
          · have h4 := h3.set_lw (T' := { U with got := S.inside, wrongs := U.wrongs ++ [("wrong" : Str)] }) rfl
            have e4 : U.wrongs.map V.str ++ [V.str "wrong"] = (U.wrongs ++ [("wrong" : Str)]).map V.str := by rw [List.map_append]; rfl
            show Q .non (upd H2 lw (.lst (U.wrongs.map V.str ++ [V.str "wrong"])))
            rw [e4]
            exact q2 _ ⟨dx, p, dv, ds, dr, dt, yb, ll, li, lw, lm, h4⟩
    cases own with
    | none =>
      show (if (if false = true then !inV V.non (S.inside.map V.int) else inV V.non (S.inside.map V.int)) = true then _ else _)
      rw [if_neg Bool.false_ne_true, inV_non]
      exact last _ _ h1 q
    | some o =>
      show (if (if false = true then !inV (.int o) (S.inside.map V.int) else inV (.int o) (S.inside.map V.int)) = true then _ else _)
      rw [if_neg Bool.false_ne_true, inV_int]
      have e0 : letTake (some o) (S, U) = ({ S with inside := [], served := if o ∈ S.inside then ins o S.served else S.served }, { U with got := S.inside, wrongs := W }) := rfl
      rw [e0] at q
      by_cases c : o ∈ S.inside
      · rw [decide_eq_true c, if_pos rfl]
        rw [if_pos c] at q
        refine ⟨_, rfl, b, _, dx, _, _, rfl, h1.hb, T.cl_Box, T.no_Box_served, rfl, _, rfl, dr, _, rfl, DPut.k (k := Sum.inl o) h1.hdr (by rw [kvT_len]; exact lt_line (by show S.served.length ≤ 1000000; have zz : S.served.length ≤ n := bd.r; omega)), ?_⟩
        rw [putK_kvT]
        exact last _ _ (h1.set_dr (S' := { S with inside := [], served := ins o S.served }) rfl) q
      · rw [decide_eq_false c, if_neg Bool.false_ne_true]
        rw [if_neg c] at q
        exact last _ _ h1 q
theorem c_Box_let_take (T : Txt w K mg) : C8.Met P w K mg base 1 (He.ga K "Box") "_let_take" (sp_Box_let_take K) [] := by
  obtain ⟨fd, F⟩ := T.f_Box_let_take
  exact ⟨_, fd, _, _, T.cl_Box, T.m_Box_let_take, ok_Box_let_take T F, F.bindsN (fun _ _ _ _ _ _ us hl => match us, hl with | [_, _, _], _ => rfl), .nil⟩
end
end K67

namespace K67
open PySem PySem.Spec PyProof.Rows L2 My
/-- a box alone, over a heap in which none of it stands -/
structure BxA (K : PySem.W.Frag) (H0 H : Hp) (b dx li dv ds dr : Addr) (S : BoxS) : Prop where
  same : Same H0 H
  nd : [b, li, dv, ds, dr].Nodup
  new : ∀ a ∈ [b, li, dv, ds, dr], H0 a = none
  hb : H b = some (.ins (He.ga K "Box") dx (bxf S li dv ds dr))
  hli : H li = some (.lst (S.inside.map V.int))
  hdv : H dv = some (.dK (kvT S.valid))
  hds : H ds = some (.dK (kvT S.sent))
  hdr : H dr = some (.dK (kvT S.served))
def Bx (K : PySem.W.Frag) (H0 H : Hp) (b : Addr) (S : BoxS) : Prop := ∃ dx li dv ds dr, BxA K H0 H b dx li dv ds dr S
def T0 : ToldS := ⟨[], false, [], [], []⟩
def S0 : BoxS := ⟨false, [], "free", [], none, none, [], []⟩
section
variable {P : Program} {w : World} {K : PySem.W.Frag} {mg : Str → Option Value} {base : Heap}
def sp_Told_init (K : PySem.W.Frag) : Sp := fun vs H Q _ => ∃ (t dt : Addr), vs = [.ref t] ∧ H t = some (.ins (He.ga K "Told") dt []) ∧
  ∀ H' ll lg lw lm, But [t] H H' → [ll, lg, lw, lm].Nodup → (∀ a ∈ [ll, lg, lw, lm], H a = none) → H' t = some (.ins (He.ga K "Told") dt (tdf T0 false ll lg lw lm)) → H' ll = some (.lst []) → H' lg = some (.lst []) → H' lw = some (.lst []) → H' lm = some (.lst []) → Q .non H'
theorem up_none {H : Hp} {a b : Addr} {o : HO} (h : upd H a o b = none) : b ≠ a ∧ H b = none := by
  have n : b ≠ a := by
    intro z
    rw [z, upd_same] at h
    cases h
  rw [upd_ne n] at h
  exact ⟨n, h⟩
set_option maxHeartbeats 2000000 in
theorem ok_Told_init (T : Txt w K mg) {fd : FuncData} (F : FunD K d_Told_init.name d_Told_init.qual d_Told_init.params d_Told_init.body d_Told_init.scope (d_Told_init.dvs K) (d_Told_init.kws K) (He.fAd K d_Told_init.at_) fd) : FnOk P w K mg base C8.CX0 1 (He.fAd K d_Told_init.at_) fd ["self"] (sp_Told_init K) := by
  refine F.ok sc_Told_init (fun vs H Q E h => ?_) (fun cdv A outer s H vs Q E hr h => ?_)
  · obtain ⟨t, dt, rfl, _⟩ := h
    rfl
  · have hu := L2.hu_of hr
    obtain ⟨t, dt, rfl, ht, q⟩ := h
    refine ⟨_, (PSs.nox ((pss_cons (ps_fld (pv 0) (pe_lst pa_nil) rfl)
  (pss_cons (ps_fld (pv 0) pe_bl rfl)
  (pss_cons (ps_fld (pv 0) (pe_lst pa_nil) rfl)
  (pss_cons (ps_fld (pv 0) pe_bl rfl)
  (pss_cons (ps_fld (pv 0) (pe_lst pa_nil) rfl)
  (pss_one (ps_fld (pv 0) (pe_lst pa_nil) rfl))))))))), ?_⟩
    refine ⟨Nat.zero_le _, fun p1 h1 => ?_⟩
    have n1 : t ≠ p1 := ne_of_none ht h1
    refine ⟨_, rfl, t, _, dt, _, rfl, (by rw [upd_ne n1]; exact ht), T.cl_Told, T.no_Told_letters, (by show 0 < 1000; decide), ?_⟩
    refine ⟨_, rfl, t, _, dt, _, rfl, upd_same, T.cl_Told, T.no_Told_opened, (by show 1 < 1000; decide), ?_⟩
    refine ⟨Nat.zero_le _, fun p2 h2 => ?_⟩
    obtain ⟨a2, h2⟩ := up_none h2
    obtain ⟨_, h2⟩ := up_none h2
    obtain ⟨b2, h2⟩ := up_none h2
    refine ⟨_, rfl, t, _, dt, _, rfl, (by rw [upd_ne a2.symm]; exact upd_same), T.cl_Told, T.no_Told_got, (by show 2 < 1000; decide), ?_⟩
    refine ⟨_, rfl, t, _, dt, _, rfl, upd_same, T.cl_Told, T.no_Told_lays, (by show 3 < 1000; decide), ?_⟩
    refine ⟨Nat.zero_le _, fun p3 h3 => ?_⟩
    obtain ⟨a3, h3⟩ := up_none h3
    obtain ⟨_, h3⟩ := up_none h3
    obtain ⟨c3, h3⟩ := up_none h3
    obtain ⟨_, h3⟩ := up_none h3
    obtain ⟨_, h3⟩ := up_none h3
    obtain ⟨b3, h3⟩ := up_none h3
    refine ⟨_, rfl, t, _, dt, _, rfl, (by rw [upd_ne a3.symm]; exact upd_same), T.cl_Told, T.no_Told_wrongs, (by show 4 < 1000; decide), ?_⟩
    refine ⟨Nat.zero_le _, fun p4 h4 => ?_⟩
    obtain ⟨a4, h4⟩ := up_none h4
    obtain ⟨d4, h4⟩ := up_none h4
    obtain ⟨_, h4⟩ := up_none h4
    obtain ⟨_, h4⟩ := up_none h4
    obtain ⟨c4, h4⟩ := up_none h4
    obtain ⟨_, h4⟩ := up_none h4
    obtain ⟨_, h4⟩ := up_none h4
    obtain ⟨b4, h4⟩ := up_none h4
    refine ⟨_, rfl, t, _, dt, _, rfl, (by rw [upd_ne a4.symm]; exact upd_same), T.cl_Told, T.no_Told_moments, (by show 5 < 1000; decide), ?_⟩
    have nt : t ∈ [t] := by simp
    refine q _ p1 p2 p3 p4 ?_ ?_ ?_ upd_same ?_ ?_ ?_ ?_
    · exact (((((((((((But.refl [t] H).put (.inl h1)).put (.inr nt)).put (.inr nt)).put (.inl h2)).put (.inr nt)).put (.inr nt)).put (.inl h3)).put (.inr nt)).put (.inl h4)).put (.inr nt))
    · simp only [List.nodup_cons, List.mem_cons, List.not_mem_nil, or_false, not_or, not_false_eq_true, List.nodup_nil, and_true]
      exact ⟨⟨b2.symm, b3.symm, b4.symm⟩, ⟨c3.symm, c4.symm⟩, d4.symm⟩
    · intro a ha
      simp only [List.mem_cons, List.not_mem_nil, or_false] at ha
      rcases ha with rfl | rfl | rfl | rfl <;> assumption
    · rw [upd_ne n1.symm, upd_ne b4.symm, upd_ne n1.symm, upd_ne b3.symm, upd_ne n1.symm, upd_ne n1.symm, upd_ne b2.symm, upd_ne n1.symm, upd_ne n1.symm, upd_same]
    · rw [upd_ne a2, upd_ne c4.symm, upd_ne a2, upd_ne c3.symm, upd_ne a2, upd_ne a2, upd_same]
    · rw [upd_ne a3, upd_ne d4.symm, upd_ne a3, upd_same]
    · rw [upd_ne a4, upd_same]
theorem c_Told_init (T : Txt w K mg) : C8.Mak P w K mg base 1 "Told" (He.ga K "Told") (sp_Told_init K) [] := by
  obtain ⟨fd, F⟩ := T.f_Told_init
  exact ⟨_, fd, _, _, T.mk_Told, ok_Told_init T F, T.g_Told, F.bindsN (fun _ _ _ _ _ _ us hl => match us, hl with | [_], _ => rfl), .nil⟩
/-- a new told beside the box -/
theorem mkBT {H0 H H' : Hp} {b dx li dv ds dr t dt ll lg lw lm : Addr} {S : BoxS} (h : BxA K H0 H b dx li dv ds dr S) (ht : H t = none) (hdt : H dt = none) (hne : dt ≠ t) (bt : But [t] (upd (upd H dt (.own t)) t (.ins (He.ga K "Told") dt [])) H') (nd : [ll, lg, lw, lm].Nodup)
    (new : ∀ a ∈ [ll, lg, lw, lm], (upd (upd H dt (.own t)) t (.ins (He.ga K "Told") dt [])) a = none) (h1 : H' t = some (.ins (He.ga K "Told") dt (tdf T0 false ll lg lw lm))) (h2 : H' ll = some (.lst [])) (h3 : H' lg = some (.lst [])) (h4 : H' lw = some (.lst [])) (h5 : H' lm = some (.lst [])) :
    BT K H0 H' b dx li dv ds dr S t dt false ll lg lw lm T0 := by
  have s1 : Same H H' := fun c o e => bt c o (by simpa using ne_of_none e ht) (by rw [upd_ne (ne_of_none e ht), upd_ne (ne_of_none e hdt)]; exact e)
  have new2 : ∀ a ∈ [ll, lg, lw, lm], a ≠ t ∧ H a = none := fun a ha => by
    obtain ⟨x1, x2⟩ := up_none (new a ha)
    obtain ⟨_, x3⟩ := up_none x2
    exact ⟨x1, x3⟩
  have old : ∀ a ∈ [b, li, dv, ds, dr], ∃ o, H a = some o := fun a ha => by
    simp only [List.mem_cons, List.not_mem_nil, or_false] at ha
    rcases ha with rfl | rfl | rfl | rfl | rfl
    · exact ⟨_, h.hb⟩
    · exact ⟨_, h.hli⟩
    · exact ⟨_, h.hdv⟩
    · exact ⟨_, h.hds⟩
    · exact ⟨_, h.hdr⟩
  refine ⟨h.same.trans s1, ?_, ?_, s1 _ _ h.hb, s1 _ _ h.hli, s1 _ _ h.hdv, s1 _ _ h.hds, s1 _ _ h.hdr, h1, h2, h3, h4, h5⟩
  · show ([b, li, dv, ds, dr] ++ (t :: [ll, lg, lw, lm])).Nodup
    refine List.nodup_append.mpr ⟨h.nd, List.nodup_cons.mpr ⟨fun z => (new2 t z).1 rfl, nd⟩, fun x hx y hy e => ?_⟩
    subst e
    obtain ⟨o, ho⟩ := old x hx
    rcases List.mem_cons.mp hy with z | z
    · rw [z, ht] at ho
      cases ho
    · rw [(new2 x z).2] at ho
      cases ho
  · intro a ha
    have ha2 : a ∈ [b, li, dv, ds, dr] ++ (t :: [ll, lg, lw, lm]) := ha
    rcases List.mem_append.mp ha2 with z | z
    · exact h.new a z
    · rcases List.mem_cons.mp z with z | z
      · rw [z]
        exact h.same.free ht
      · exact h.same.free (new2 a z).2
theorem tupN {H0 H : Hp} {b t p : Addr} {x : BoxS × ToldS} {o : HO} (h : BTx K H0 H b t x) (hp : H p = none) : BTx K H0 (upd H p o) b t x := by
  obtain ⟨dx, li, dv, ds, dr, dt, yb, ll, lg, lw, lm, h⟩ := h
  exact ⟨dx, li, dv, ds, dr, dt, yb, ll, lg, lw, lm, h.to (same_new hp)⟩
end
end K67

namespace K67
open PySem PySem.Spec PyProof.Rows L2 My
def at_ (rs : List RuleL) (i : Nat) : RuleL := (rs[i]?).getD []
structure GoodB (rs : List RuleL) : Prop where
  len : rs.length = 8
  good : ∀ r ∈ rs, GoodRule r
theorem GoodB.get {rs : List RuleL} (h : GoodB rs) {i : Nat} (hi : i < 8) : rs[i]? = some (at_ rs i) := by
  have hl : i < rs.length := by rw [h.len]; exact hi
  unfold at_
  rw [List.getElem?_eq_getElem hl]
  rfl
theorem GoodB.six {rs : List RuleL} (h : GoodB rs) {i : Nat} (hi : i < 8) : (at_ rs i).length ≤ 6 := (h.good _ (List.mem_of_getElem? (h.get hi))).1
def passBy (S : BoxS) : BoxS × ToldS := if S.ajar = true then letTake none (S, T0) else (S, T0)
def dayF (d : Int) (rs : List RuleL) (S : BoxS) : BoxS × ToldS :=
  match S.age with
  | none => (S, T0)
  | some a => if a + 1 = d then carry (at_ rs 6) "late" ({ S with age := some (a + 1) }, T0) else ({ S with age := some (a + 1) }, T0)
def powerF (rs : List RuleL) (S : BoxS) : BoxS × ToldS := carry (at_ rs 7) "power" (S, T0)
def layIn (p : Int) (l : Bool) (x : BoxS × ToldS) : BoxS × ToldS :=
  if l = true ∧ x.1.ajar = true then ({ x.1 with inside := x.1.inside ++ [p] }, { x.2 with wrongs := if x.1.inside.isEmpty = true then x.2.wrongs else x.2.wrongs ++ [("two" : Str)] }) else x
def bringF (rs : List RuleL) (p : Int) (l s : Bool) (S : BoxS) : BoxS × ToldS :=
  if S.tf = "free" then goAway s "laid" "left" (at_ rs 1) (at_ rs 2) (layIn p l (carry (at_ rs 0) "given" ({ S with ajar := true, age := some 0, last := some p }, { T0 with opened := true }))) else (S, T0)
section
variable {P : Program} {w : World} {K : PySem.W.Frag} {mg : Str → Option Value} {base : Heap}
def sp_Box_pass_by (K : PySem.W.Frag) : Sp := fun vs H Q _ => ∃ (H0 : Hp) (b : Addr) (S : BoxS) (n : Nat), vs = [.ref b] ∧ Bx K H0 H b S ∧ Bd n (S, T0) ∧ n < 900000 ∧ ∀ H' t, BTx K H0 H' b t (passBy S) → Q (.ref t) H'
set_option maxHeartbeats 2000000 in
theorem ok_Box_pass_by (T : Txt w K mg) {fd : FuncData} (F : FunD K d_Box_pass_by.name d_Box_pass_by.qual d_Box_pass_by.params d_Box_pass_by.body d_Box_pass_by.scope (d_Box_pass_by.dvs K) (d_Box_pass_by.kws K) (He.fAd K d_Box_pass_by.at_) fd) : FnOk P w K mg base C8.CX0 3 (He.fAd K d_Box_pass_by.at_) fd ["self"] (sp_Box_pass_by K) := by
  have c_Box_let_take := c_Box_let_take (P := P) (w := w) (base := base) T
  have c_Told_init := c_Told_init (P := P) (w := w) (base := base) T
  refine F.ok sc_Box_pass_by (fun vs H Q E h => ?_) (fun cdv A outer s H vs Q E hr h => ?_)
  · obtain ⟨H0, b, S, n, rfl, _⟩ := h
    rfl
  · have hu := L2.hu_of hr
    obtain ⟨H0, b, S, n, rfl, ⟨dx, li, dv, ds, dr, hB⟩, bd, hn, q⟩ := h
    refine ⟨_, (PSs.nox ((pss_cons (ps_set (i := 1) sc_Box_pass_by.nd rfl (by first | exact Or.inl rfl | exact Or.inr rfl) (My.pe_mk0 c_Told_init hr (by decide) rfl))
  (pss_cons (ps_if (pt_val (My.pe_fldK (K := K) rfl (pv 0) rfl))
  (pss_one (ps_expr (C8.pe_mt c_Box_let_take hr (by decide) (pv 0) (pa_cons pe_non (pa_cons (pv 1) pa_nil)))))
  pss_nil)
  (pss_one (ps_ret (pv 1))))))), ?_⟩
    intro t dt nt ndt nex
    refine ⟨t, dt, rfl, upd_same, fun H1 ll lg lw lm bt nd new h1 h2 h3 h4 h5 => ⟨rfl, ?_⟩⟩
    have h := mkBT hB nt ndt nex bt nd new h1 h2 h3 h4 h5
    refine ⟨_, rfl, b, _, dx, _, _, rfl, h.hb, T.cl_Box, T.no_Box_ajar, rfl, _, rfl, ?_⟩
    unfold passBy at q
    cases c : S.ajar with
    | false =>
      rw [if_neg (by rw [c]; exact Bool.false_ne_true)] at q
      exact ⟨_, rfl, q _ _ ⟨dx, li, dv, ds, dr, dt, _, ll, lg, lw, lm, h⟩⟩
    | true =>
      rw [if_pos c] at q
      exact ⟨_, rfl, b, dx, _, rfl, h.hb, rfl, _, rfl, H0, b, t, none, (S, T0), n, rfl, ⟨dx, li, dv, ds, dr, dt, _, ll, lg, lw, lm, h⟩, bd, by omega, fun H2 hx => ⟨_, rfl, q _ _ hx⟩⟩
theorem c_Box_pass_by (T : Txt w K mg) : C8.Met P w K mg base 3 (He.ga K "Box") "pass_by" (sp_Box_pass_by K) [] := by
  obtain ⟨fd, F⟩ := T.f_Box_pass_by
  exact ⟨_, fd, _, _, T.cl_Box, T.m_Box_pass_by, ok_Box_pass_by T F, F.bindsN (fun _ _ _ _ _ _ us hl => match us, hl with | [_], _ => rfl), .nil⟩
def sp_Box_power (K : PySem.W.Frag) : Sp := fun vs H Q _ => ∃ (H0 : Hp) (b k : Addr) (d : Int) (rs : List RuleL) (S : BoxS) (n : Nat), vs = [.ref b, .ref k] ∧ Bx K H0 H b S ∧ BookAt K H0 k d rs ∧ GoodB rs ∧ Bd n (S, T0) ∧ n < 900000 ∧ ∀ H' t, BTx K H0 H' b t (powerF rs S) → Q (.ref t) H'
set_option maxHeartbeats 2000000 in
theorem ok_Box_power (T : Txt w K mg) {fd : FuncData} (F : FunD K d_Box_power.name d_Box_power.qual d_Box_power.params d_Box_power.body d_Box_power.scope (d_Box_power.dvs K) (d_Box_power.kws K) (He.fAd K d_Box_power.at_) fd) : FnOk P w K mg base C8.CX0 4 (He.fAd K d_Box_power.at_) fd ["self", "book"] (sp_Box_power K) := by
  have c_Box_carry_out := c_Box_carry_out (P := P) (w := w) (base := base) T
  have c_Told_init := c_Told_init (P := P) (w := w) (base := base) T
  refine F.ok sc_Box_power (fun vs H Q E h => ?_) (fun cdv A outer s H vs Q E hr h => ?_)
  · obtain ⟨H0, b, k, d, rs, S, n, rfl, _⟩ := h
    rfl
  · have hu := L2.hu_of hr
    obtain ⟨H0, b, k, d, rs, S, n, rfl, ⟨dx, li, dv, ds, dr, hB⟩, hk, hg, bd, hn, q⟩ := h
    refine ⟨_, (PSs.nox ((pss_cons (ps_set (i := 2) sc_Box_power.nd rfl (by first | exact Or.inl rfl | exact Or.inr rfl) (My.pe_mk0 c_Told_init hr (by decide) rfl))
  (pss_cons (ps_expr (C8.pe_mt c_Box_carry_out hr (by decide) (pv 0) (pa_cons (pv 1) (pa_cons pe_str (pa_cons (pv 2) pa_nil)))))
  (pss_one (ps_ret (pv 2))))))), ?_⟩
    intro t dt nt ndt nex
    refine ⟨t, dt, rfl, upd_same, fun H1 ll lg lw lm bt nd new h1 h2 h3 h4 h5 => ⟨rfl, ?_⟩⟩
    have h := mkBT hB nt ndt nex bt nd new h1 h2 h3 h4 h5
    exact ⟨_, rfl, b, dx, _, rfl, h.hb, rfl, _, rfl, _, rfl, H0, b, t, k, "power", 7, _, d, rs, (S, T0), n, rfl, ⟨dx, li, dv, ds, dr, dt, _, ll, lg, lw, lm, h⟩, hk, rfl, hg.get (by decide), hg.six (by decide), bd, by omega, fun H2 hx => ⟨_, rfl, q _ _ hx⟩⟩
theorem c_Box_power (T : Txt w K mg) : C8.Met P w K mg base 4 (He.ga K "Box") "power" (sp_Box_power K) [] := by
  obtain ⟨fd, F⟩ := T.f_Box_power
  exact ⟨_, fd, _, _, T.cl_Box, T.m_Box_power, ok_Box_power T F, F.bindsN (fun _ _ _ _ _ _ us hl => match us, hl with | [_, _], _ => rfl), .nil⟩
def sp_Box_day (K : PySem.W.Frag) : Sp := fun vs H Q _ => ∃ (H0 : Hp) (b k : Addr) (d : Int) (rs : List RuleL) (S : BoxS) (n : Nat), vs = [.ref b, .ref k] ∧ Bx K H0 H b S ∧ BookAt K H0 k d rs ∧ GoodB rs ∧ Bd n (S, T0) ∧ n < 900000 ∧ ∀ H' t, BTx K H0 H' b t (dayF d rs S) → Q (.ref t) H'
set_option maxHeartbeats 2000000 in
theorem ok_Box_day (T : Txt w K mg) {fd : FuncData} (F : FunD K d_Box_day.name d_Box_day.qual d_Box_day.params d_Box_day.body d_Box_day.scope (d_Box_day.dvs K) (d_Box_day.kws K) (He.fAd K d_Box_day.at_) fd) : FnOk P w K mg base C8.CX0 4 (He.fAd K d_Box_day.at_) fd ["self", "book"] (sp_Box_day K) := by
  have c_Book_days := c_Book_days (P := P) (w := w) (base := base) T
  have c_Box_carry_out := c_Box_carry_out (P := P) (w := w) (base := base) T
  have c_Told_init := c_Told_init (P := P) (w := w) (base := base) T
  refine F.ok sc_Box_day (fun vs H Q E h => ?_) (fun cdv A outer s H vs Q E hr h => ?_)
  · obtain ⟨H0, b, k, d, rs, S, n, rfl, _⟩ := h
    rfl
  · have hu := L2.hu_of hr
    obtain ⟨H0, b, k, d, rs, S, n, rfl, ⟨dx, li, dv, ds, dr, hB⟩, hk, hg, bd, hn, q⟩ := h
    refine ⟨_, (PSs.nox ((pss_cons (ps_set (i := 2) sc_Box_day.nd rfl (by first | exact Or.inl rfl | exact Or.inr rfl) (My.pe_mk0 c_Told_init hr (by decide) rfl))
  (pss_cons (ps_if (pt_cmpR op_notN (My.pe_fldK (K := K) rfl (pv 0) rfl) pe_non (nomark _))
  (pss_cons (ps_fldaug (pv 0) pe_int in_add)
  (pss_one (ps_if (pt_cmpR op_eq (My.pe_fldK (K := K) rfl (pv 0) rfl) (C8.pe_mt0 c_Book_days hr (by decide) (pv 1)) (nomark _))
  (pss_one (ps_expr (C8.pe_mt c_Box_carry_out hr (by decide) (pv 0) (pa_cons (pv 1) (pa_cons pe_str (pa_cons (pv 2) pa_nil))))))
  pss_nil)))
  pss_nil)
  (pss_one (ps_ret (pv 2))))))), ?_⟩
    intro t dt nt ndt nex
    refine ⟨t, dt, rfl, upd_same, fun H1 ll lg lw lm bt nd new h1 h2 h3 h4 h5 => ⟨rfl, ?_⟩⟩
    have h := mkBT hB nt ndt nex bt nd new h1 h2 h3 h4 h5
    refine ⟨_, rfl, b, _, dx, _, oV S.age, rfl, h.hb, T.cl_Box, T.no_Box_age, rfl, rfl, _, rfl, ?_⟩
    unfold dayF at q
    cases c : S.age with
    | none =>
      simp only [c] at q
      exact ⟨_, rfl, q _ _ ⟨dx, li, dv, ds, dr, dt, _, ll, lg, lw, lm, h⟩⟩
    | some a =>
      simp only [c] at q
      refine ⟨_, rfl, b, _, dx, _, oV S.age, rfl, h.hb, T.cl_Box, T.no_Box_age, rfl, ?_⟩
      rw [c]
      have h2 := h.set_b (S' := { S with age := some (a + 1) }) rfl rfl rfl rfl
      refine ⟨_, _, rfl, rfl, dx, _, h.hb, (by show 8 < 1000; decide), ?_⟩
      have hx2 : BTx K H0 _ b t ({ S with age := some (a + 1) }, T0) := ⟨dx, li, dv, ds, dr, dt, _, ll, lg, lw, lm, h2⟩
      have hk2 := hk.same hx2.same
      obtain ⟨dk, tk, ak, hkb, _⟩ := id hk2
      refine ⟨_, rfl, b, _, dx, _, V.int (a + 1), rfl, h2.hb, T.cl_Box, T.no_Box_age, rfl, _, rfl, k, dk, _, rfl, hkb, rfl, k, d, rs, rfl, hk2, rfl, _, rfl, ?_⟩
      by_cases e : a + 1 = d
      · rw [show decide (V.int (a + 1) = V.int d) = true from decide_eq_true (congrArg V.int e)]
        rw [if_pos e] at q
        exact ⟨_, rfl, b, dx, _, rfl, h2.hb, rfl, _, rfl, _, rfl, H0, b, t, k, "late", 6, _, d, rs, _, n, rfl, hx2, hk, rfl, hg.get (by decide), hg.six (by decide), ⟨bd.i, bd.v, bd.s, bd.r, bd.l, bd.w, bd.m⟩, by omega, fun H2 hx => ⟨_, rfl, q _ _ hx⟩⟩
      · rw [show decide (V.int (a + 1) = V.int d) = false from decide_eq_false (fun z => e (V.int.inj z))]
        rw [if_neg e] at q
        exact ⟨_, rfl, q _ _ hx2⟩
theorem c_Box_day (T : Txt w K mg) : C8.Met P w K mg base 4 (He.ga K "Box") "day" (sp_Box_day K) [] := by
  obtain ⟨fd, F⟩ := T.f_Box_day
  exact ⟨_, fd, _, _, T.cl_Box, T.m_Box_day, ok_Box_day T F, F.bindsN (fun _ _ _ _ _ _ us hl => match us, hl with | [_, _], _ => rfl), .nil⟩
def sp_Box_bring (K : PySem.W.Frag) : Sp := fun vs H Q _ => ∃ (H0 : Hp) (b k : Addr) (p : Int) (l s : Bool) (d : Int) (rs : List RuleL) (S : BoxS) (n : Nat), vs = [.ref b, .ref k, .int p, .bl l, .bl s] ∧ Bx K H0 H b S ∧ BookAt K H0 k d rs ∧ GoodB rs ∧ Bd n (S, T0) ∧ n < 900000 ∧ ∀ H' t, BTx K H0 H' b t (bringF rs p l s S) → Q (.ref t) H'
theorem Bd.lay {n : Nat} {x : BoxS × ToldS} (h : Bd n x) {p : Int} {l : Bool} : Bd (n + 1) (layIn p l x) := by
  have h1 := h.mono (Nat.le_succ n)
  unfold layIn
  split
  · refine ⟨?_, h1.v, h1.s, h1.r, h1.l, ?_, h1.m⟩
    · show (x.1.inside ++ [p]).length ≤ n + 1
      rw [List.length_append]
      exact Nat.succ_le_succ h.i
    · show (if x.1.inside.isEmpty = true then x.2.wrongs else x.2.wrongs ++ [("two" : Str)]).length ≤ n + 1
      split
      · exact h1.w
      · rw [List.length_append]
        exact Nat.succ_le_succ h.w
  · exact h1
set_option maxHeartbeats 2000000 in
theorem ok_Box_bring (T : Txt w K mg) {fd : FuncData} (F : FunD K d_Box_bring.name d_Box_bring.qual d_Box_bring.params d_Box_bring.body d_Box_bring.scope (d_Box_bring.dvs K) (d_Box_bring.kws K) (He.fAd K d_Box_bring.at_) fd) : FnOk P w K mg base C8.CX0 5 (He.fAd K d_Box_bring.at_) fd ["self", "book", "parcel", "lays", "shuts"] (sp_Box_bring K) := by
  have c_Box_go_away := c_Box_go_away (P := P) (w := w) (base := base) T
  have c_Box_carry_out := c_Box_carry_out (P := P) (w := w) (base := base) T
  have c_Told_init := c_Told_init (P := P) (w := w) (base := base) T
  refine F.ok sc_Box_bring (fun vs H Q E h => ?_) (fun cdv A outer s H vs Q E hr h => ?_)
  · obtain ⟨H0, b, k, p, l, s1, d, rs, S, n, rfl, _⟩ := h
    rfl
  · have hu := L2.hu_of hr
    obtain ⟨H0, b, k, p, l, s1, d, rs, S, n, rfl, ⟨dx, li, dv, ds, dr, hB⟩, hk, hg, bd, hn, q⟩ := h
    refine ⟨_, (PSs.nox ((pss_cons (ps_set (i := 5) sc_Box_bring.nd rfl (by first | exact Or.inl rfl | exact Or.inr rfl) (My.pe_mk0 c_Told_init hr (by decide) rfl))
  (pss_cons (ps_if (pt_cmpR op_ne (My.pe_fldK (K := K) rfl (pv 0) rfl) pe_str (nomark _))
  (pss_one (ps_ret (pv 5)))
  pss_nil)
  (pss_cons (ps_fld (pv 5) pe_bl rfl)
  (pss_cons (ps_fld (pv 0) pe_bl rfl)
  (pss_cons (ps_fld (pv 0) pe_int rfl)
  (pss_cons (ps_fld (pv 0) (pv 2) rfl)
  (pss_cons (ps_expr (C8.pe_mt c_Box_carry_out hr (by decide) (pv 0) (pa_cons (pv 1) (pa_cons pe_str (pa_cons (pv 5) pa_nil)))))
  (pss_cons (ps_if (PW.pt (pw_and (pt_val (pv 3)) (pw_and1 (pt_val (My.pe_fldK (K := K) rfl (pv 0) rfl)))))
  (pss_cons (ps_if (My.pt_truthK (K := K) rfl (My.pe_fldK (K := K) rfl (pv 0) rfl) (by intro _; rfl))
  (pss_one (ps_expr (My.pe_bmK (K := K) rfl PySem.F.plainAttrs_list PySem.F.slot_list_append PySem.F.type_list_append mt_append (My.pe_fldK (K := K) rfl (pv 5) rfl) (pa_cons pe_str pa_nil))))
  pss_nil)
  (pss_cons (ps_expr (My.pe_bmK (K := K) rfl PySem.F.plainAttrs_list PySem.F.slot_list_append PySem.F.type_list_append mt_append (My.pe_fldK (K := K) rfl (pv 0) rfl) (pa_cons (pv 2) pa_nil)))
  (pss_one (ps_fld (pv 5) pe_bl rfl))))
  pss_nil)
  (pss_cons (ps_expr (C8.pe_mt c_Box_go_away hr (by decide) (pv 0) (pa_cons (pv 1) (pa_cons (pv 4) (pa_cons (pe_tup (pa_cons pe_str (pa_cons pe_str pa_nil))) (pa_cons (pv 5) pa_nil))))))
  (pss_one (ps_ret (pv 5)))))))))))))), ?_⟩
    intro t dt nt ndt nex
    refine ⟨t, dt, rfl, upd_same, fun H1 ll lg lw lm bt nd new h1 h2 h3 h4 h5 => ⟨rfl, ?_⟩⟩
    have h := mkBT hB nt ndt nex bt nd new h1 h2 h3 h4 h5
    refine ⟨_, rfl, b, _, dx, _, _, rfl, h.hb, T.cl_Box, T.no_Box_taken_for, rfl, rfl, _, rfl, ?_⟩
    unfold bringF at q
    by_cases c : S.tf = "free"
    · rw [if_pos c] at q
      rw [show (!decide (V.str S.tf = V.str "free")) = false by rw [str_eqT c]; rfl]
      -- what is left behind the laying
      have last : ∀ (H2 : Hp) (x : BoxS × ToldS) (m : Nat), BTx K H0 H2 b t x → Bd m x → m < 950000 → (∀ H' t, BTx K H0 H' b t (goAway s1 "laid" "left" (at_ rs 1) (at_ rs 2) x) → Q (.ref t) H') →
          tSeq (tDrop (tMeth (He.ga K "Box") "_go_away" (sp_Box_go_away K) [] C8.E0 (tVar 0) (tCons (tVar 1) (tCons (tVar 4) (tCons (tTup (tCons (tC (.str "laid")) (tCons (tC (.str "left")) tNil))) (tCons (tVar 5) tNil)))))) (tRet (tVar 5))
            { nx := fun _ H' => Q .non H', rt := Q } [some (.ref b), some (.ref k), some (.int p), some (.bl l), some (.bl s1), some (.ref t)] H2 := by
        intro H2 x m hx bdx hm q2
        obtain ⟨dx2, li2, dv2, ds2, dr2, dt2, yb2, ll2, lg2, lw2, lm2, h2⟩ := id hx
        refine ⟨_, rfl, b, dx2, _, rfl, h2.hb, rfl, _, rfl, _, rfl, by show 2 ≤ sizeLine; decide, fun g hgn => ⟨_, rfl, ?_⟩⟩
        exact ⟨H0, b, t, k, g, s1, "laid", "left", 1, 2, _, _, d, rs, x, m, rfl, tupN hx hgn, hk, SqT.of upd_same, rfl, hg.get (by decide), hg.six (by decide), rfl, hg.get (by decide), hg.six (by decide), bdx, by omega, fun H3 hx3 => ⟨_, rfl, q2 _ _ hx3⟩⟩
      refine ⟨_, rfl, t, _, dt, _, rfl, h.ht, T.cl_Told, T.no_Told_opened, (by show 6 < 1000; decide), ?_⟩
      have g1 := h.set_t (T' := { T0 with opened := true }) rfl rfl rfl rfl
      refine ⟨_, rfl, b, _, dx, _, rfl, g1.hb, T.cl_Box, T.no_Box_ajar, (by show 8 < 1000; decide), ?_⟩
      have g2 := g1.set_b (S' := { S with ajar := true }) rfl rfl rfl rfl
      refine ⟨_, rfl, b, _, dx, _, rfl, g2.hb, T.cl_Box, T.no_Box_age, (by show 8 < 1000; decide), ?_⟩
      have g3 := g2.set_b (S' := { S with ajar := true, age := some 0 }) rfl rfl rfl rfl
      refine ⟨_, rfl, _, rfl, b, _, dx, _, rfl, g3.hb, T.cl_Box, T.no_Box_last, (by show 8 < 1000; decide), ?_⟩
      have g4 := g3.set_b (S' := { S with ajar := true, age := some 0, last := some p }) rfl rfl rfl rfl
      have hx4 : BTx K H0 _ b t ({ S with ajar := true, age := some 0, last := some p }, { T0 with opened := true }) := ⟨dx, li, dv, ds, dr, dt, _, ll, lg, lw, lm, g4⟩
      have bd4 : Bd n ({ S with ajar := true, age := some 0, last := some p }, { T0 with opened := true }) := ⟨bd.i, bd.v, bd.s, bd.r, bd.l, bd.w, bd.m⟩
      have bd5 := (bd4.carry (at_ rs 0) "given").mono (m := n + 7) (by have := hg.six (i := 0) (by decide); omega)
      refine ⟨_, rfl, b, dx, _, rfl, g4.hb, rfl, _, rfl, _, rfl, H0, b, t, k, "given", 0, _, d, rs, _, n, rfl, hx4, hk, rfl, hg.get (by decide), hg.six (by decide), bd4, by omega, fun H2 hx => ?_⟩
      have bd6 := bd5.lay (p := p) (l := l)
      generalize hy : carry (at_ rs 0) "given" ({ S with ajar := true, age := some 0, last := some p }, { T0 with opened := true }) = y at hx q bd5 bd6
      obtain ⟨Y, U⟩ := y
      have q' := fun (e : layIn p l (Y, U) = layIn p l (Y, U)) => q
      refine ⟨_, rfl, _, rfl, ?_⟩
      cases l with
      | false =>
        have e0 : layIn p false (Y, U) = (Y, U) := by
          unfold layIn
          rw [if_neg (fun z => Bool.false_ne_true z.1)]
        rw [e0] at q
        exact last _ _ _ hx bd5 (by omega) q
      | true =>
        obtain ⟨dx2, li2, dv2, ds2, dr2, dt2, yb2, ll2, lg2, lw2, lm2, h2⟩ := id hx
        refine ⟨_, rfl, b, _, dx2, _, _, rfl, h2.hb, T.cl_Box, T.no_Box_ajar, rfl, _, rfl, ?_⟩
        cases ca : Y.ajar with
        | false =>
          have e0 : layIn p true (Y, U) = (Y, U) := by
            unfold layIn
            rw [if_neg (fun z => by have := z.2; rw [show (Y, U).1.ajar = Y.ajar from rfl, ca] at this; exact Bool.false_ne_true this)]
          rw [e0] at q
          exact last _ _ _ hx bd5 (by omega) q
        | true =>
          have e0 : layIn p true (Y, U) = ({ Y with inside := Y.inside ++ [p] }, { U with wrongs := if Y.inside.isEmpty = true then U.wrongs else U.wrongs ++ [("two" : Str)] }) := by
            unfold layIn
            rw [if_pos ⟨rfl, ca⟩]
          rw [e0] at q bd6
          refine ⟨_, rfl, b, _, dx2, _, _, rfl, h2.hb, T.cl_Box, T.no_Box_inside, rfl, !(Y.inside.map V.int).isEmpty, .inl ⟨_, SqL.of h2.hli, rfl⟩, ?_⟩
          rw [List.isEmpty_map]
          have zi : Y.inside.length ≤ n + 7 := bd5.i
          have zw : U.wrongs.length ≤ n + 7 := bd5.w
          have ei : Y.inside.map V.int ++ [V.int p] = (Y.inside ++ [p]).map V.int := by rw [List.map_append]; rfl
          cases ce : Y.inside.isEmpty with
          | true =>
            rw [ce, if_pos rfl] at q bd6
            refine ⟨_, rfl, b, _, dx2, _, _, rfl, h2.hb, T.cl_Box, T.no_Box_inside, rfl, .inl ⟨rfl, _, SqL.of h2.hli⟩, _, rfl, li2, _, _, rfl, rfl, h2.hli, by rw [List.length_map]; exact lt_line (by show Y.inside.length ≤ 1000000; omega), ?_⟩
            rw [ei]
            have h3 := h2.set_li (S' := { Y with inside := Y.inside ++ [p] }) rfl
            refine ⟨_, rfl, t, _, dt2, _, rfl, h3.ht, T.cl_Told, T.no_Told_lays, (by show 6 < 1000; decide), ?_⟩
            have hx5 : BTx K H0 _ b t ({ Y with inside := Y.inside ++ [p] }, U) := ⟨dx2, li2, dv2, ds2, dr2, dt2, _, ll2, lg2, lw2, lm2, h3.set_y true⟩
            exact last _ _ _ hx5 bd6 (by omega) q
          | false =>
            rw [ce, if_neg Bool.false_ne_true] at q bd6
            refine ⟨_, rfl, t, _, dt2, _, _, rfl, h2.ht, T.cl_Told, T.no_Told_wrongs, rfl, .inl ⟨rfl, _, SqL.of h2.hlw⟩, lw2, _, _, rfl, rfl, h2.hlw, by rw [List.length_map]; exact lt_line (by show U.wrongs.length ≤ 1000000; omega), ?_⟩
            have ew : U.wrongs.map V.str ++ [V.str "two"] = (U.wrongs ++ [("two" : Str)]).map V.str := by rw [List.map_append]; rfl
            have h3 := h2.set_lw (T' := { U with wrongs := U.wrongs ++ [("two" : Str)] }) rfl
            rw [← ew] at h3
            refine ⟨_, rfl, b, _, dx2, _, _, rfl, h3.hb, T.cl_Box, T.no_Box_inside, rfl, .inl ⟨rfl, _, SqL.of h3.hli⟩, _, rfl, li2, _, _, rfl, rfl, h3.hli, by rw [List.length_map]; exact lt_line (by show Y.inside.length ≤ 1000000; omega), ?_⟩
            have h4 := h3.set_li (S' := { Y with inside := Y.inside ++ [p] }) rfl
            rw [← ei] at h4
            refine ⟨_, rfl, t, _, dt2, _, rfl, h4.ht, T.cl_Told, T.no_Told_lays, (by show 6 < 1000; decide), ?_⟩
            have hx5 : BTx K H0 _ b t ({ Y with inside := Y.inside ++ [p] }, { U with wrongs := U.wrongs ++ [("two" : Str)] }) := ⟨dx2, li2, dv2, ds2, dr2, dt2, _, ll2, lg2, lw2, lm2, h4.set_y true⟩
            exact last _ _ _ hx5 bd6 (by omega) q
    · rw [if_neg c] at q
      rw [show (!decide (V.str S.tf = V.str "free")) = true by rw [str_eqF c]; rfl]
      exact ⟨_, rfl, q _ _ ⟨dx, li, dv, ds, dr, dt, _, ll, lg, lw, lm, h⟩⟩
theorem c_Box_bring (T : Txt w K mg) : C8.Met P w K mg base 5 (He.ga K "Box") "bring" (sp_Box_bring K) [] := by
  obtain ⟨fd, F⟩ := T.f_Box_bring
  exact ⟨_, fd, _, _, T.cl_Box, T.m_Box_bring, ok_Box_bring T F, F.bindsN (fun _ _ _ _ _ _ us hl => match us, hl with | [_, _, _, _, _], _ => rfl), .nil⟩
end
end K67

namespace K67
open PySem PySem.Spec PyProof.Rows L2 My
def takeIf (p : Int) (t : Bool) (x : BoxS × ToldS) : BoxS × ToldS := if t = true ∧ x.1.ajar = true then letTake (some p) x else x
def addW (c : Bool) (wd : Str) (x : BoxS × ToldS) : BoxS × ToldS := if c = true then (x.1, { x.2 with wrongs := x.2.wrongs ++ [wd] }) else x
def missF (p : Int) (S : BoxS) : Bool := decide (p ∉ S.inside) && decide (p ∉ S.served)
def codeF (rs : List RuleL) (p : Int) (t s : Bool) (S : BoxS) : BoxS × ToldS :=
  if p ∈ S.valid then goAway s "taken" "gone" (at_ rs 4) (at_ rs 5) (addW (missF p S) "empty" (takeIf p t (carry (at_ rs 3) "opened" ({ S with ajar := true }, { T0 with opened := true }))))
  else addW (decide (p ∈ S.inside) && decide (p ∈ S.sent)) "refused" (S, T0)
theorem Bd.tk {n : Nat} {x : BoxS × ToldS} (h : Bd n x) {p : Int} {t : Bool} : Bd (n + 1) (takeIf p t x) := by
  unfold takeIf
  split
  · exact h.take _
  · exact h.mono (Nat.le_succ n)
theorem Bd.aw {n : Nat} {x : BoxS × ToldS} (h : Bd n x) {c : Bool} {wd : Str} : Bd (n + 1) (addW c wd x) := by
  have h1 := h.mono (Nat.le_succ n)
  unfold addW
  split
  · refine ⟨h1.i, h1.v, h1.s, h1.r, h1.l, ?_, h1.m⟩
    show (x.2.wrongs ++ [wd]).length ≤ n + 1
    rw [List.length_append]
    exact Nat.succ_le_succ h.w
  · exact h1
section
variable {P : Program} {w : World} {K : PySem.W.Frag} {mg : Str → Option Value} {base : Heap}
def sp_Box_code (K : PySem.W.Frag) : Sp := fun vs H Q _ => ∃ (H0 : Hp) (b k : Addr) (p : Int) (l s : Bool) (d : Int) (rs : List RuleL) (S : BoxS) (n : Nat), vs = [.ref b, .ref k, .int p, .bl l, .bl s] ∧ Bx K H0 H b S ∧ BookAt K H0 k d rs ∧ GoodB rs ∧ Bd n (S, T0) ∧ n < 900000 ∧ ∀ H' t, BTx K H0 H' b t (codeF rs p l s S) → Q (.ref t) H'
set_option maxHeartbeats 2000000 in
theorem ok_Box_code (T : Txt w K mg) {fd : FuncData} (F : FunD K d_Box_code.name d_Box_code.qual d_Box_code.params d_Box_code.body d_Box_code.scope (d_Box_code.dvs K) (d_Box_code.kws K) (He.fAd K d_Box_code.at_) fd) : FnOk P w K mg base C8.CX0 5 (He.fAd K d_Box_code.at_) fd ["self", "book", "parcel", "takes", "shuts"] (sp_Box_code K) := by
  have c_Box_go_away := c_Box_go_away (P := P) (w := w) (base := base) T
  have c_Box_let_take := c_Box_let_take (P := P) (w := w) (base := base) T
  have c_Box_carry_out := c_Box_carry_out (P := P) (w := w) (base := base) T
  have c_Told_init := c_Told_init (P := P) (w := w) (base := base) T
  refine F.ok sc_Box_code (fun vs H Q E h => ?_) (fun cdv A outer s H vs Q E hr h => ?_)
  · obtain ⟨H0, b, k, p, l, s1, d, rs, S, n, rfl, _⟩ := h
    rfl
  · have hu := L2.hu_of hr
    obtain ⟨H0, b, k, p, l, s1, d, rs, S, n, rfl, ⟨dx, li, dv, ds, dr, hB⟩, hk, hg, bd, hn, q⟩ := h
    refine ⟨_, (PSs.nox ((pss_cons (ps_set (i := 5) sc_Box_code.nd rfl (by first | exact Or.inl rfl | exact Or.inr rfl) (My.pe_mk0 c_Told_init hr (by decide) rfl))
  (pss_cons (ps_if (pt_cmp (pc_dnotin hu (pv 2) (My.pe_fldK (K := K) rfl (pv 0) rfl)))
  (pss_cons (ps_if (PW.pt (pw_and (pt_cmpR (My.in_seqK (K := K) rfl) (pv 2) (My.pe_fldK (K := K) rfl (pv 0) rfl) (by rfl)) (pw_and1 (pt_cmp (pc_din hu (pv 2) (My.pe_fldK (K := K) rfl (pv 0) rfl))))))
  (pss_one (ps_expr (My.pe_bmK (K := K) rfl PySem.F.plainAttrs_list PySem.F.slot_list_append PySem.F.type_list_append mt_append (My.pe_fldK (K := K) rfl (pv 5) rfl) (pa_cons pe_str pa_nil))))
  pss_nil)
  (pss_one (ps_ret (pv 5))))
  pss_nil)
  (pss_cons (ps_set (i := 6) sc_Box_code.nd rfl (by first | exact Or.inl rfl | exact Or.inr rfl) (pe_and (pe_cmpR (My.notIn_seqK (K := K) rfl) (pv 2) (My.pe_fldK (K := K) rfl (pv 0) rfl) (by rfl)) (pe_one (pe_cmp (pc_dnotin hu (pv 2) (My.pe_fldK (K := K) rfl (pv 0) rfl)) rfl))))
  (pss_cons (ps_fld (pv 5) pe_bl rfl)
  (pss_cons (ps_fld (pv 0) pe_bl rfl)
  (pss_cons (ps_expr (C8.pe_mt c_Box_carry_out hr (by decide) (pv 0) (pa_cons (pv 1) (pa_cons pe_str (pa_cons (pv 5) pa_nil)))))
  (pss_cons (ps_if (PW.pt (pw_and (pt_val (pv 3)) (pw_and1 (pt_val (My.pe_fldK (K := K) rfl (pv 0) rfl)))))
  (pss_one (ps_expr (C8.pe_mt c_Box_let_take hr (by decide) (pv 0) (pa_cons (pv 2) (pa_cons (pv 5) pa_nil)))))
  pss_nil)
  (pss_cons (ps_if (pt_val (pv 6))
  (pss_one (ps_expr (My.pe_bmK (K := K) rfl PySem.F.plainAttrs_list PySem.F.slot_list_append PySem.F.type_list_append mt_append (My.pe_fldK (K := K) rfl (pv 5) rfl) (pa_cons pe_str pa_nil))))
  pss_nil)
  (pss_cons (ps_expr (C8.pe_mt c_Box_go_away hr (by decide) (pv 0) (pa_cons (pv 1) (pa_cons (pv 4) (pa_cons (pe_tup (pa_cons pe_str (pa_cons pe_str pa_nil))) (pa_cons (pv 5) pa_nil))))))
  (pss_one (ps_ret (pv 5)))))))))))))), ?_⟩
    intro t dt nt ndt nex
    refine ⟨t, dt, rfl, upd_same, fun H1 ll lg lw lm bt nd new h1 h2 h3 h4 h5 => ⟨rfl, ?_⟩⟩
    have h := mkBT hB nt ndt nex bt nd new h1 h2 h3 h4 h5
    refine ⟨_, rfl, _, rfl, b, _, dx, _, _, rfl, h.hb, T.cl_Box, T.no_Box_valid, rfl, dv, _, rfl, DGet.k (k := Sum.inl p) h.hdv, _, rfl, ?_⟩
    rw [valV_kvT]
    have sent_in : ∀ (A B : Prop) (x : Bool), (x = true → A) → (x = false → B) → if x = true then A else B := fun A B x ha hb => by
      cases x with
      | true => exact ha rfl
      | false => exact hb rfl
    unfold codeF at q
    by_cases c : p ∈ S.valid
    · rw [if_pos c] at q
      rw [decide_eq_true c]
      -- behind the taking: the word, the going away
      have last : ∀ (H2 : Hp) (x : BoxS × ToldS) (m : Nat), BTx K H0 H2 b t x → Bd m x → m < 950000 → (∀ H' t, BTx K H0 H' b t (goAway s1 "taken" "gone" (at_ rs 4) (at_ rs 5) x) → Q (.ref t) H') →
          tSeq (tDrop (tMeth (He.ga K "Box") "_go_away" (sp_Box_go_away K) [] C8.E0 (tVar 0) (tCons (tVar 1) (tCons (tVar 4) (tCons (tTup (tCons (tC (.str "taken")) (tCons (tC (.str "gone")) tNil))) (tCons (tVar 5) tNil)))))) (tRet (tVar 5))
            { nx := fun _ H' => Q .non H', rt := Q } [some (.ref b), some (.ref k), some (.int p), some (.bl l), some (.bl s1), some (.ref t), some (.bl (missF p S))] H2 := by
        intro H2 x m hx bdx hm q2
        obtain ⟨dx2, li2, dv2, ds2, dr2, dt2, yb2, ll2, lg2, lw2, lm2, h2⟩ := id hx
        refine ⟨_, rfl, b, dx2, _, rfl, h2.hb, rfl, _, rfl, _, rfl, by show 2 ≤ sizeLine; decide, fun g hgn => ⟨_, rfl, ?_⟩⟩
        exact ⟨H0, b, t, k, g, s1, "taken", "gone", 4, 5, _, _, d, rs, x, m, rfl, tupN hx hgn, hk, SqT.of upd_same, rfl, hg.get (by decide), hg.six (by decide), rfl, hg.get (by decide), hg.six (by decide), bdx, by omega, fun H3 hx3 => ⟨_, rfl, q2 _ _ hx3⟩⟩
      have last2 : ∀ (H2 : Hp) (x : BoxS × ToldS) (m : Nat), BTx K H0 H2 b t x → Bd m x → m < 940000 → (∀ H' t, BTx K H0 H' b t (goAway s1 "taken" "gone" (at_ rs 4) (at_ rs 5) (addW (missF p S) "empty" x)) → Q (.ref t) H') →
          tSeq (tIfS (tB (tVar 6)) (tDrop (tBM K "list" rAppend (tFld K (tVar 5) "wrongs") (tCons (tC (.str "empty")) tNil))) tNext) (tSeq (tDrop (tMeth (He.ga K "Box") "_go_away" (sp_Box_go_away K) [] C8.E0 (tVar 0) (tCons (tVar 1) (tCons (tVar 4) (tCons (tTup (tCons (tC (.str "taken")) (tCons (tC (.str "gone")) tNil))) (tCons (tVar 5) tNil)))))) (tRet (tVar 5)))
            { nx := fun _ H' => Q .non H', rt := Q } [some (.ref b), some (.ref k), some (.int p), some (.bl l), some (.bl s1), some (.ref t), some (.bl (missF p S))] H2 := by
        intro H2 x m hx bdx hm q2
        refine ⟨_, rfl, _, rfl, ?_⟩
        unfold addW at q2
        refine sent_in _ _ _ (fun e => ?_) (fun e => ?_)
        · rw [if_pos e] at q2
          obtain ⟨Y, U⟩ := x
          obtain ⟨dx2, li2, dv2, ds2, dr2, dt2, yb2, ll2, lg2, lw2, lm2, h2⟩ := id hx
          have zw : U.wrongs.length ≤ m := bdx.w
          refine ⟨_, rfl, t, _, dt2, _, _, rfl, h2.ht, T.cl_Told, T.no_Told_wrongs, rfl, .inl ⟨rfl, _, SqL.of h2.hlw⟩, lw2, _, _, rfl, rfl, h2.hlw, by rw [List.length_map]; exact lt_line (by show U.wrongs.length ≤ 1000000; omega), ?_⟩
          have ew : U.wrongs.map V.str ++ [V.str "empty"] = (U.wrongs ++ [("empty" : Str)]).map V.str := by rw [List.map_append]; rfl
          have h3 := h2.set_lw (T' := { U with wrongs := U.wrongs ++ [("empty" : Str)] }) rfl
          rw [← ew] at h3
          refine last _ _ (m + 1) ⟨dx2, li2, dv2, ds2, dr2, dt2, yb2, ll2, lg2, lw2, lm2, h3⟩ ?_ (by omega) q2
          have := bdx.aw (c := true) (wd := "empty")
          exact this
        · rw [if_neg (by rw [e]; exact Bool.false_ne_true)] at q2
          exact last _ _ _ hx bdx (by omega) q2
      refine ⟨_, rfl, _, rfl, b, _, dx, _, _, rfl, h.hb, T.cl_Box, T.no_Box_inside, rfl, li, _, rfl, .inl (SqL.of h.hli), rfl, all_flat_int _, _, rfl, ?_⟩
      rw [show (if true = true then !inV (.int p) (S.inside.map V.int) else inV (.int p) (S.inside.map V.int)) = decide (p ∉ S.inside) by rw [if_pos rfl, inV_int, ← decide_not]]
      -- missing stands in slot 6
      have mid : ∀ (tl : TS), (tl { nx := fun _ H' => Q .non H', rt := Q } [some (.ref b), some (.ref k), some (.int p), some (.bl l), some (.bl s1), some (.ref t), some (.bl (missF p S))] H1) →
          (if decide (p ∉ S.inside) = true then tOp rEq (tC .non) (tC .non) [] H1 (fun _ _ => True) else True) → True := fun _ _ _ => trivial
      have fin : tSeq (sFld K (tVar 5) (tC (.bl true)) "opened") (tSeq (sFld K (tVar 0) (tC (.bl true)) "ajar") (tSeq (tDrop (tMeth (He.ga K "Box") "_carry_out" (sp_Box_carry_out K) [] C8.E0 (tVar 0) (tCons (tVar 1) (tCons (tC (.str "opened")) (tCons (tVar 5) tNil)))))
          (tSeq (tIfS (tAnd (tB (tVar 3)) (tB (tFld K (tVar 0) "ajar"))) (tDrop (tMeth (He.ga K "Box") "_let_take" (sp_Box_let_take K) [] C8.E0 (tVar 0) (tCons (tVar 2) (tCons (tVar 5) tNil)))) tNext)
            (tSeq (tIfS (tB (tVar 6)) (tDrop (tBM K "list" rAppend (tFld K (tVar 5) "wrongs") (tCons (tC (.str "empty")) tNil))) tNext) (tSeq (tDrop (tMeth (He.ga K "Box") "_go_away" (sp_Box_go_away K) [] C8.E0 (tVar 0) (tCons (tVar 1) (tCons (tVar 4) (tCons (tTup (tCons (tC (.str "taken")) (tCons (tC (.str "gone")) tNil))) (tCons (tVar 5) tNil)))))) (tRet (tVar 5)))))))
          { nx := fun _ H' => Q .non H', rt := Q } [some (.ref b), some (.ref k), some (.int p), some (.bl l), some (.bl s1), some (.ref t), some (.bl (missF p S))] H1 := by
        refine ⟨_, rfl, t, _, dt, _, rfl, h.ht, T.cl_Told, T.no_Told_opened, (by show 6 < 1000; decide), ?_⟩
        have g1 := h.set_t (T' := { T0 with opened := true }) rfl rfl rfl rfl
        refine ⟨_, rfl, b, _, dx, _, rfl, g1.hb, T.cl_Box, T.no_Box_ajar, (by show 8 < 1000; decide), ?_⟩
        have g2 := g1.set_b (S' := { S with ajar := true }) rfl rfl rfl rfl
        have hx2 : BTx K H0 _ b t ({ S with ajar := true }, { T0 with opened := true }) := ⟨dx, li, dv, ds, dr, dt, _, ll, lg, lw, lm, g2⟩
        have bd2 : Bd n ({ S with ajar := true }, { T0 with opened := true }) := ⟨bd.i, bd.v, bd.s, bd.r, bd.l, bd.w, bd.m⟩
        have bd3 := (bd2.carry (at_ rs 3) "opened").mono (m := n + 7) (by have := hg.six (i := 3) (by decide); omega)
        refine ⟨_, rfl, b, dx, _, rfl, g2.hb, rfl, _, rfl, _, rfl, H0, b, t, k, "opened", 3, _, d, rs, _, n, rfl, hx2, hk, rfl, hg.get (by decide), hg.six (by decide), bd2, by omega, fun H2 hx => ?_⟩
        generalize hy : carry (at_ rs 3) "opened" ({ S with ajar := true }, { T0 with opened := true }) = y at hx q bd3
        obtain ⟨Y, U⟩ := y
        refine ⟨_, rfl, _, rfl, ?_⟩
        cases l with
        | false =>
          have e0 : takeIf p false (Y, U) = (Y, U) := by
            unfold takeIf
            rw [if_neg (fun z => Bool.false_ne_true z.1)]
          rw [e0] at q
          exact last2 _ _ _ hx bd3 (by omega) q
        | true =>
          obtain ⟨dx2, li2, dv2, ds2, dr2, dt2, yb2, ll2, lg2, lw2, lm2, h2⟩ := id hx
          refine ⟨_, rfl, b, _, dx2, _, _, rfl, h2.hb, T.cl_Box, T.no_Box_ajar, rfl, _, rfl, ?_⟩
          cases ca : Y.ajar with
          | false =>
            have e0 : takeIf p true (Y, U) = (Y, U) := by
              unfold takeIf
              rw [if_neg (fun z => by have := z.2; rw [show (Y, U).1.ajar = Y.ajar from rfl, ca] at this; exact Bool.false_ne_true this)]
            rw [e0] at q
            exact last2 _ _ _ hx bd3 (by omega) q
          | true =>
            have e0 : takeIf p true (Y, U) = letTake (some p) (Y, U) := by
              unfold takeIf
              rw [if_pos ⟨rfl, ca⟩]
            rw [e0] at q
            exact ⟨_, rfl, b, dx2, _, rfl, h2.hb, rfl, _, rfl, _, rfl, H0, b, t, some p, (Y, U), n + 7, rfl, hx, bd3, by omega, fun H3 hx3 => last2 _ _ (n + 8) hx3 (bd3.take _) (by omega) q⟩
      unfold missF at fin
      by_cases ci : p ∈ S.inside
      · rw [decide_eq_false (fun z => z ci)] at fin ⊢
        exact fin
      · rw [decide_eq_true ci] at fin ⊢
        refine ⟨_, rfl, _, rfl, b, _, dx, _, _, rfl, h.hb, T.cl_Box, T.no_Box_served, rfl, dr, _, rfl, DGet.k (k := Sum.inl p) h.hdr, ?_⟩
        rw [valV_kvT, ← decide_not]
        exact fin
    · rw [if_neg c] at q
      rw [decide_eq_false c]
      refine ⟨_, rfl, _, rfl, b, _, dx, _, _, rfl, h.hb, T.cl_Box, T.no_Box_inside, rfl, li, _, rfl, .inl (SqL.of h.hli), rfl, all_flat_int _, _, rfl, ?_⟩
      rw [show (if false = true then !inV (.int p) (S.inside.map V.int) else inV (.int p) (S.inside.map V.int)) = decide (p ∈ S.inside) by rw [if_neg Bool.false_ne_true, inV_int]]
      have hx : BTx K H0 H1 b t (S, T0) := ⟨dx, li, dv, ds, dr, dt, _, ll, lg, lw, lm, h⟩
      by_cases ci : p ∈ S.inside
      · rw [decide_eq_true ci]
        rw [decide_eq_true ci] at q
        refine ⟨_, rfl, _, rfl, b, _, dx, _, _, rfl, h.hb, T.cl_Box, T.no_Box_sent, rfl, ds, _, rfl, DGet.k (k := Sum.inl p) h.hds, _, rfl, ?_⟩
        rw [valV_kvT]
        by_cases cs : p ∈ S.sent
        · rw [decide_eq_true cs]
          rw [decide_eq_true cs] at q
          refine ⟨_, rfl, t, _, dt, _, _, rfl, h.ht, T.cl_Told, T.no_Told_wrongs, rfl, .inl ⟨rfl, _, SqL.of h.hlw⟩, lw, _, _, rfl, rfl, h.hlw, by show 0 < sizeLine; decide, ?_⟩
          have h3 := h.set_lw (T' := { T0 with wrongs := [("refused" : Str)] }) rfl
          exact ⟨_, rfl, q _ _ ⟨dx, li, dv, ds, dr, dt, _, ll, lg, lw, lm, h3⟩⟩
        · rw [decide_eq_false cs]
          rw [decide_eq_false cs] at q
          exact ⟨_, rfl, q _ _ hx⟩
      · rw [decide_eq_false ci]
        rw [decide_eq_false ci] at q
        exact ⟨_, rfl, q _ _ hx⟩
theorem c_Box_code (T : Txt w K mg) : C8.Met P w K mg base 5 (He.ga K "Box") "code" (sp_Box_code K) [] := by
  obtain ⟨fd, F⟩ := T.f_Box_code
  exact ⟨_, fd, _, _, T.cl_Box, T.m_Box_code, ok_Box_code T F, F.bindsN (fun _ _ _ _ _ _ us hl => match us, hl with | [_, _, _, _, _], _ => rfl), .nil⟩
end
end K67

namespace K67
open PySem PySem.Spec PyProof.Rows L2 My
def doF (rs : List RuleL) (d : Int) (n : Int) (x : Deed) (S : BoxS) : BoxS × ToldS :=
  match x with
  | .bring l s => bringF rs n l s S
  | .code p t s => codeF rs p t s S
  | .pass => passBy S
  | .day => dayF d rs S
  | .power => powerF rs S
theorem Bd.self {n : Nat} {x : BoxS × ToldS} (h : Bd n x) : Bd n (x.1, T0) := ⟨h.i, h.v, h.s, h.r, Nat.zero_le _, Nat.zero_le _, Nat.zero_le _⟩
theorem Bd.doF {n : Nat} {S : BoxS} {rs : List RuleL} {d k : Int} {x : Deed} (hg : GoodB rs) (h : Bd n (S, T0)) : Bd (n + 16) (doF rs d k x S) := by
  have l6 := fun (i : Nat) (hi : i < 8) => hg.six (i := i) hi
  cases x with
  | bring l s =>
    show Bd (n + 16) (bringF rs k l s S)
    unfold bringF
    split
    · have b1 : Bd n ({ S with ajar := true, age := some 0, last := some k }, { T0 with opened := true }) := ⟨h.i, h.v, h.s, h.r, h.l, h.w, h.m⟩
      have b2 := (b1.carry (at_ rs 0) "given").mono (m := n + 7) (by have := l6 0 (by decide); omega)
      exact (((b2.lay (p := k) (l := l)).go (sh := s) (m1 := "laid") (m2 := "left") (l6 1 (by decide)) (l6 2 (by decide))).mono (by omega))
    · exact h.mono (by omega)
  | code p t s =>
    show Bd (n + 16) (codeF rs p t s S)
    unfold codeF
    split
    · have b1 : Bd n ({ S with ajar := true }, { T0 with opened := true }) := ⟨h.i, h.v, h.s, h.r, h.l, h.w, h.m⟩
      have b2 := (b1.carry (at_ rs 3) "opened").mono (m := n + 7) (by have := l6 3 (by decide); omega)
      exact ((((b2.tk (p := p) (t := t)).aw (c := missF p S) (wd := "empty")).go (sh := s) (m1 := "taken") (m2 := "gone") (l6 4 (by decide)) (l6 5 (by decide))).mono (by omega))
    · exact (h.aw).mono (by omega)
  | pass =>
    show Bd (n + 16) (passBy S)
    unfold passBy
    split
    · exact (h.take none).mono (by omega)
    · exact h.mono (by omega)
  | day =>
    show Bd (n + 16) (dayF d rs S)
    unfold dayF
    split
    · exact h.mono (by omega)
    · rename_i a _
      split
      · have b1 : Bd n ({ S with age := some (a + 1) }, T0) := ⟨h.i, h.v, h.s, h.r, h.l, h.w, h.m⟩
        exact (b1.carry (at_ rs 6) "late").mono (by have := l6 6 (by decide); omega)
      · exact (show Bd n ({ S with age := some (a + 1) }, T0) from ⟨h.i, h.v, h.s, h.r, h.l, h.w, h.m⟩).mono (by omega)
  | power =>
    show Bd (n + 16) (powerF rs S)
    unfold powerF
    exact (h.carry (at_ rs 7) "power").mono (by have := l6 7 (by decide); omega)
section
variable {P : Program} {w : World} {K : PySem.W.Frag} {mg : Str → Option Value} {base : Heap}
def sp_do_deed (K : PySem.W.Frag) : Sp := fun vs H Q _ => ∃ (H0 : Hp) (b k : Addr) (v : V) (x : Deed) (p : Int) (d : Int) (rs : List RuleL) (S : BoxS) (n : Nat), vs = [.ref k, .ref b, v, .int p] ∧ DeedAt K H v x ∧ Bx K H0 H b S ∧ BookAt K H0 k d rs ∧ GoodB rs ∧ Bd n (S, T0) ∧ n < 900000 ∧ ∀ H' t, BTx K H0 H' b t (doF rs d p x S) → Q (.ref t) H'
def sp_Box_init (K : PySem.W.Frag) : Sp := fun vs H Q _ => ∃ (b dx : Addr), vs = [.ref b] ∧ H b = some (.ins (He.ga K "Box") dx []) ∧
  ∀ H' li dv ds dr, But [b] H H' → [li, dv, ds, dr].Nodup → (∀ a ∈ [li, dv, ds, dr], H a = none) → H' b = some (.ins (He.ga K "Box") dx (bxf S0 li dv ds dr)) → H' li = some (.lst []) → H' dv = some (.dK []) → H' ds = some (.dK []) → H' dr = some (.dK []) → Q .non H'
set_option maxHeartbeats 2000000 in
theorem ok_Box_init (T : Txt w K mg) {fd : FuncData} (F : FunD K d_Box_init.name d_Box_init.qual d_Box_init.params d_Box_init.body d_Box_init.scope (d_Box_init.dvs K) (d_Box_init.kws K) (He.fAd K d_Box_init.at_) fd) : FnOk P w K mg base C8.CX0 1 (He.fAd K d_Box_init.at_) fd ["self"] (sp_Box_init K) := by
  refine F.ok sc_Box_init (fun vs H Q E h => ?_) (fun cdv A outer s H vs Q E hr h => ?_)
  · obtain ⟨t, dt, rfl, _⟩ := h
    rfl
  · have hu := L2.hu_of hr
    obtain ⟨t, dt, rfl, ht, q⟩ := h
    refine ⟨_, (PSs.nox ((pss_cons (ps_fld (pv 0) pe_bl rfl)
  (pss_cons (ps_fld (pv 0) (pe_lst pa_nil) rfl)
  (pss_cons (ps_fld (pv 0) pe_str rfl)
  (pss_cons (ps_fld (pv 0) pe_dnewK rfl)
  (pss_cons (ps_fld (pv 0) pe_non rfl)
  (pss_cons (ps_fld (pv 0) pe_non rfl)
  (pss_cons (ps_fld (pv 0) pe_dnewK rfl)
  (pss_one (ps_fld (pv 0) pe_dnewK rfl))))))))))), ?_⟩
    refine ⟨_, rfl, t, _, dt, _, rfl, ht, T.cl_Box, T.no_Box_ajar, (by show 0 < 1000; decide), ?_⟩
    refine ⟨Nat.zero_le _, fun p1 h1 => ?_⟩
    obtain ⟨a1, h1⟩ := up_none h1
    refine ⟨_, rfl, t, _, dt, _, rfl, (by rw [upd_ne a1.symm]; exact upd_same), T.cl_Box, T.no_Box_inside, (by show 1 < 1000; decide), ?_⟩
    refine ⟨_, rfl, t, _, dt, _, rfl, upd_same, T.cl_Box, T.no_Box_taken_for, (by show 2 < 1000; decide), ?_⟩
    refine fun p2 h2 => ?_
    obtain ⟨a2, h2⟩ := up_none h2
    obtain ⟨_, h2⟩ := up_none h2
    obtain ⟨b2, h2⟩ := up_none h2
    obtain ⟨_, h2⟩ := up_none h2
    refine ⟨_, rfl, t, _, dt, _, rfl, (by rw [upd_ne a2.symm]; exact upd_same), T.cl_Box, T.no_Box_valid, (by show 3 < 1000; decide), ?_⟩
    refine ⟨_, rfl, t, _, dt, _, rfl, upd_same, T.cl_Box, T.no_Box_age, (by show 4 < 1000; decide), ?_⟩
    refine ⟨_, rfl, t, _, dt, _, rfl, upd_same, T.cl_Box, T.no_Box_last, (by show 5 < 1000; decide), ?_⟩
    refine fun p3 h3 => ?_
    obtain ⟨a3, h3⟩ := up_none h3
    obtain ⟨_, h3⟩ := up_none h3
    obtain ⟨_, h3⟩ := up_none h3
    obtain ⟨c3, h3⟩ := up_none h3
    obtain ⟨_, h3⟩ := up_none h3
    obtain ⟨_, h3⟩ := up_none h3
    obtain ⟨b3, h3⟩ := up_none h3
    obtain ⟨_, h3⟩ := up_none h3
    refine ⟨_, rfl, t, _, dt, _, rfl, (by rw [upd_ne a3.symm]; exact upd_same), T.cl_Box, T.no_Box_sent, (by show 6 < 1000; decide), ?_⟩
    refine fun p4 h4 => ?_
    obtain ⟨a4, h4⟩ := up_none h4
    obtain ⟨d4, h4⟩ := up_none h4
    obtain ⟨_, h4⟩ := up_none h4
    obtain ⟨_, h4⟩ := up_none h4
    obtain ⟨_, h4⟩ := up_none h4
    obtain ⟨c4, h4⟩ := up_none h4
    obtain ⟨_, h4⟩ := up_none h4
    obtain ⟨_, h4⟩ := up_none h4
    obtain ⟨b4, h4⟩ := up_none h4
    obtain ⟨_, h4⟩ := up_none h4
    refine ⟨_, rfl, t, _, dt, _, rfl, (by rw [upd_ne a4.symm]; exact upd_same), T.cl_Box, T.no_Box_served, (by show 7 < 1000; decide), ?_⟩
    have nt : t ∈ [t] := by simp
    refine q _ p1 p2 p3 p4 ?_ ?_ ?_ upd_same ?_ ?_ ?_ ?_
    · exact ((((((((((((But.refl [t] H).put (.inr nt)).put (.inl h1)).put (.inr nt)).put (.inr nt)).put (.inl h2)).put (.inr nt)).put (.inr nt)).put (.inr nt)).put (.inl h3)).put (.inr nt)).put (.inl h4)).put (.inr nt)
    · simp only [List.nodup_cons, List.mem_cons, List.not_mem_nil, or_false, not_or, not_false_eq_true, List.nodup_nil, and_true]
      exact ⟨⟨b2.symm, b3.symm, b4.symm⟩, ⟨c3.symm, c4.symm⟩, d4.symm⟩
    · intro a ha
      simp only [List.mem_cons, List.not_mem_nil, or_false] at ha
      rcases ha with rfl | rfl | rfl | rfl <;> assumption
    · rw [upd_ne a1, upd_ne b4.symm, upd_ne a1, upd_ne b3.symm, upd_ne a1, upd_ne a1, upd_ne a1, upd_ne b2.symm, upd_ne a1, upd_ne a1, upd_same]
    · rw [upd_ne a2, upd_ne c4.symm, upd_ne a2, upd_ne c3.symm, upd_ne a2, upd_ne a2, upd_ne a2, upd_same]
    · rw [upd_ne a3, upd_ne d4.symm, upd_ne a3, upd_same]
    · rw [upd_ne a4, upd_same]
theorem c_Box_init (T : Txt w K mg) : C8.Mak P w K mg base 1 "Box" (He.ga K "Box") (sp_Box_init K) [] := by
  obtain ⟨fd, F⟩ := T.f_Box_init
  exact ⟨_, fd, _, _, T.mk_Box, ok_Box_init T F, T.g_Box, F.bindsN (fun _ _ _ _ _ _ us hl => match us, hl with | [_], _ => rfl), .nil⟩
end
end K67

namespace K67
open PySem PySem.Spec PyProof.Rows L2 My
abbrev PlayS := Int × BoxS × List ToldS
def stepF (rs : List RuleL) (d : Int) (st : PlayS) (x : Deed) : PlayS :=
  (if isBr x = true then st.1 + 1 else st.1, (doF rs d (if isBr x = true then st.1 + 1 else st.1) x st.2.1).1, st.2.2 ++ [(doF rs d (if isBr x = true then st.1 + 1 else st.1) x st.2.1).2])
def runF (rs : List RuleL) (d : Int) (ds : List Deed) : PlayS := ds.foldl (stepF rs d) (0, S0, [])
theorem runF_more {rs : List RuleL} {d : Int} {ds : List Deed} {i : Nat} {x : Deed} (h : ds[i]? = some x) : runF rs d (ds.take (i + 1)) = stepF rs d (runF rs d (ds.take i)) x := by
  unfold runF
  rw [take_more h, List.foldl_append]
  rfl
theorem runF_bd {rs : List RuleL} {d : Int} (hg : GoodB rs) : ∀ (ds : List Deed) (i : Nat), i ≤ ds.length → Bd (16 * i) ((runF rs d (ds.take i)).2.1, T0) := by
  intro ds i
  induction i with
  | zero => intro _; exact ⟨Nat.le_refl _, Nat.le_refl _, Nat.le_refl _, Nat.le_refl _, Nat.le_refl _, Nat.le_refl _, Nat.le_refl _⟩
  | succ i ih =>
    intro hi
    have hx := List.getElem?_eq_getElem (show i < ds.length by omega)
    rw [runF_more hx]
    have := ((ih (by omega)).doF hg (d := d) (k := if isBr ds[i] = true then (runF rs d (ds.take i)).1 + 1 else (runF rs d (ds.take i)).1) (x := ds[i])).self
    exact this.mono (by omega)
theorem runF_len (rs : List RuleL) (d : Int) (ds : List Deed) : (runF rs d ds).2.2.length = ds.length := by
  have hh : ∀ (l : List Deed) (st : PlayS), (l.foldl (stepF rs d) st).2.2.length = st.2.2.length + l.length := by
    intro l
    induction l with
    | nil => intro st; rfl
    | cons z l ih =>
      intro st
      rw [List.foldl_cons, ih, List.length_cons]
      show (st.2.2 ++ [_]).length + l.length = _
      rw [List.length_append]
      show st.2.2.length + 1 + l.length = _
      omega
  unfold runF
  rw [hh]
  show 0 + _ = _
  omega
def hideF (fp : List Addr) (H : Hp) : Hp := fun a => if a ∈ fp then none else H a
theorem hide_same (fp : List Addr) (H : Hp) : Same (hideF fp H) H := fun a o e => by
  unfold hideF at e
  split at e
  · cases e
  · exact e
theorem hide_none {fp : List Addr} {H : Hp} {a : Addr} (h : a ∈ fp) : hideF fp H a = none := if_pos h
theorem hide_some {fp : List Addr} {H : Hp} {a : Addr} {o : HO} (n : a ∉ fp) (h : H a = some o) : hideF fp H a = some o := by
  unfold hideF
  rw [if_neg n]
  exact h
theorem hide_in {fp : List Addr} {H : Hp} {a : Addr} {o : HO} (h : hideF fp H a = some o) : a ∉ fp := fun z => by
  rw [hide_none z] at h
  cases h
/-- a told thing (it, its letters, what was got) that stands apart from the list at sl -/
def TdAt (K : PySem.W.Frag) (H : Hp) (sl : Addr) (z : Addr × Addr × Addr) (U : ToldS) : Prop := ∃ dt yb lw lm, (sl ≠ z.1 ∧ sl ≠ z.2.1 ∧ sl ≠ z.2.2 ∧ sl ≠ lw ∧ sl ≠ lm) ∧ H z.1 = some (.ins (He.ga K "Told") dt (tdf U yb z.2.1 z.2.2 lw lm)) ∧ H z.2.1 = some (.lst (U.letters.map V.int)) ∧ H z.2.2 = some (.lst (U.got.map V.int)) ∧
  H lw = some (.lst (U.wrongs.map V.str)) ∧ H lm = some (.lst (U.moments.map V.str))
/-- the lists of letters and of what was got -/
def lets (ts : List (Addr × Addr × Addr)) : List Addr := ts.flatMap fun z => [z.2.1, z.2.2]
def StoryAt (K : PySem.W.Frag) (H0 H : Hp) (sl : Addr) (Us : List ToldS) : Prop := ∃ ts : List (Addr × Addr × Addr), H sl = some (.lst (ts.map fun z => V.ref z.1)) ∧ Paired (TdAt K H sl) ts Us ∧ (lets ts).Nodup ∧ ∀ x ∈ lets ts, H0 x = none
theorem TdAt.same {K : PySem.W.Frag} {H H' : Hp} {sl : Addr} {z : Addr × Addr × Addr} {U : ToldS} (s : But [sl] H H') (h : TdAt K H sl z U) : TdAt K H' sl z U := by
  obtain ⟨dt, yb, lw, lm, ⟨n1, n2, n3, n4, n5⟩, h1, h2, h3, h4, h5⟩ := h
  exact ⟨dt, yb, lw, lm, ⟨n1, n2, n3, n4, n5⟩, s _ _ (by simpa using n1.symm) h1, s _ _ (by simpa using n2.symm) h2, s _ _ (by simpa using n3.symm) h3, s _ _ (by simpa using n4.symm) h4, s _ _ (by simpa using n5.symm) h5⟩
theorem lets_some {K : PySem.W.Frag} {H : Hp} {sl : Addr} : ∀ {ts : List (Addr × Addr × Addr)} {Us : List ToldS}, Paired (TdAt K H sl) ts Us → ∀ x ∈ lets ts, ∃ o, H x = some o
  | _, _, .nil, x, hx => by cases hx
  | z :: ts, _, .cons r t, x, hx => by
    obtain ⟨dt, yb, lw, lm, _, h1, h2, h3, _⟩ := r
    have hx2 : x ∈ z.2.1 :: z.2.2 :: lets ts := hx
    rcases List.mem_cons.mp hx2 with e | hx2
    · rw [e]; exact ⟨_, h2⟩
    · rcases List.mem_cons.mp hx2 with e | hx2
      · rw [e]; exact ⟨_, h3⟩
      · exact lets_some t x hx2
theorem lets_app (ts us : List (Addr × Addr × Addr)) : lets (ts ++ us) = lets ts ++ lets us := by
  unfold lets
  rw [List.flatMap_append]
/-- behind some deeds: the box, the story, all that stood -/
def PlayedAt (K : PySem.W.Frag) (H H' : Hp) (b sl : Addr) (S : BoxS) (Us : List ToldS) : Prop := ∃ dx li dv ds dr, BxA K (hideF [b, li, dv, ds, dr] H') H' b dx li dv ds dr S ∧ Same H (hideF [b, li, dv, ds, dr] H') ∧ StoryAt K H (hideF [b, li, dv, ds, dr] H') sl Us ∧ H sl = none
theorem bxa_hide {K : PySem.W.Frag} {H : Hp} {b dx li dv ds dr : Addr} {S : BoxS} (nd : [b, li, dv, ds, dr].Nodup) (hb : H b = some (.ins (He.ga K "Box") dx (bxf S li dv ds dr))) (hli : H li = some (.lst (S.inside.map V.int))) (hdv : H dv = some (.dK (kvT S.valid)))
    (hds : H ds = some (.dK (kvT S.sent))) (hdr : H dr = some (.dK (kvT S.served))) : BxA K (hideF [b, li, dv, ds, dr] H) H b dx li dv ds dr S :=
  ⟨hide_same _ _, nd, fun _ ha => hide_none ha, hb, hli, hdv, hds, hdr⟩
section
variable {P : Program} {w : World} {K : PySem.W.Frag} {mg : Str → Option Value} {base : Heap}
def sp_played (K : PySem.W.Frag) : Sp := fun vs H Q _ => ∃ (k a : Addr) (d : Int) (rs : List RuleL) (xs : List V) (ds : List Deed), vs = [.ref k, .ref a] ∧ BookAt K H k d rs ∧ GoodB rs ∧ SqL K H a xs ∧ DeedsAt K H xs ds ∧ ds.length ≤ 50000 ∧
  ∀ H' p b sl, PlayedAt K H H' b sl (runF rs d ds).2.1 (runF rs d ds).2.2 → H' p = some (.tup [.ref b, .ref sl]) → H p = none → Q (.ref p) H'
end
end K67

namespace K67
open PySem PySem.Spec PyProof.Rows L2 My
/-- a report as play tells it -/
def ItAt (H : Hp) (z : Addr × Addr × Addr) (U : ToldS) : Prop := H z.1 = some (.tup [.ref z.2.1, .bl U.opened, .ref z.2.2]) ∧ H z.2.1 = some (.lst (U.letters.map V.int)) ∧ H z.2.2 = some (.lst (U.got.map V.int))
/-- the list that play tells: all of it new, its lists apart -/
def RepAt (H0 H : Hp) (p : Addr) (Us : List ToldS) : Prop := ∃ rs : List (Addr × Addr × Addr), H p = some (.lst (rs.map fun z => V.ref z.1)) ∧ Paired (ItAt H) rs Us ∧ (lets rs).Nodup ∧ (∀ x ∈ lets rs, H0 x = none ∧ x ≠ p) ∧ H0 p = none
theorem paired_take {α β : Type} {F : α → β → Prop} : ∀ {l : List α} {m : List β} (n : Nat), Paired F l m → Paired F (l.take n) (m.take n)
  | _, _, 0, _ => .nil
  | _, _, _ + 1, .nil => .nil
  | _, _, n + 1, .cons r t => .cons r (paired_take n t)
theorem lets_mem {ts : List (Addr × Addr × Addr)} {z : Addr × Addr × Addr} (h : z ∈ ts) : z.2.1 ∈ lets ts ∧ z.2.2 ∈ lets ts := by
  unfold lets
  exact ⟨List.mem_flatMap.mpr ⟨z, h, by simp⟩, List.mem_flatMap.mpr ⟨z, h, by simp⟩⟩
theorem td_get {K : PySem.W.Frag} {H : Hp} {sl : Addr} {ts : List (Addr × Addr × Addr)} {Us : List ToldS} (h : Paired (TdAt K H sl) ts Us) {i : Nat} {y : V} (e : (ts.map fun z => V.ref z.1)[i]? = some y) : ∃ z U, ts[i]? = some z ∧ Us[i]? = some U ∧ y = .ref z.1 ∧ TdAt K H sl z U := by
  obtain ⟨z, hz, rfl⟩ := map_get e
  obtain ⟨U, hU, ht⟩ := paired_at h hz
  exact ⟨z, U, hz, hU, rfl, ht⟩
section
variable {P : Program} {w : World} {K : PySem.W.Frag} {mg : Str → Option Value} {base : Heap}
def sp_Told_report (K : PySem.W.Frag) : Sp := fun vs H Q _ => ∃ (t dt : Addr) (yb : Bool) (ll lg lw lm : Addr) (U : ToldS), vs = [.ref t] ∧ H t = some (.ins (He.ga K "Told") dt (tdf U yb ll lg lw lm)) ∧ ∀ p, H p = none → Q (.ref p) (upd H p (.tup [.ref ll, .bl U.opened, .ref lg]))
set_option maxHeartbeats 2000000 in
theorem ok_Told_report (T : Txt w K mg) {fd : FuncData} (F : FunD K d_Told_report.name d_Told_report.qual d_Told_report.params d_Told_report.body d_Told_report.scope (d_Told_report.dvs K) (d_Told_report.kws K) (He.fAd K d_Told_report.at_) fd) : FnOk P w K mg base C8.CX0 1 (He.fAd K d_Told_report.at_) fd ["self"] (sp_Told_report K) := by
  refine F.ok sc_Told_report (fun vs H Q E h => ?_) (fun cdv A outer s H vs Q E hr h => ?_)
  · obtain ⟨t, dt, yb, ll, lg, lw, lm, U, rfl, _⟩ := h
    rfl
  · have hu := L2.hu_of hr
    obtain ⟨t, dt, yb, ll, lg, lw, lm, U, rfl, h1, q⟩ := h
    refine ⟨_, (PSs.nox ((pss_one (ps_ret (pe_tup (pa_cons (My.pe_fldK (K := K) rfl (pv 0) rfl) (pa_cons (My.pe_fldK (K := K) rfl (pv 0) rfl) (pa_cons (My.pe_fldK (K := K) rfl (pv 0) rfl) pa_nil)))))))), ?_⟩
    exact ⟨_, rfl, t, _, dt, _, _, rfl, h1, T.cl_Told, T.no_Told_letters, rfl, _, rfl, t, _, dt, _, _, rfl, h1, T.cl_Told, T.no_Told_opened, rfl, _, rfl, t, _, dt, _, _, rfl, h1, T.cl_Told, T.no_Told_got, rfl, by show 3 ≤ sizeLine; decide, q⟩
theorem c_Told_report (T : Txt w K mg) : C8.Met P w K mg base 1 (He.ga K "Told") "report" (sp_Told_report K) [] := by
  obtain ⟨fd, F⟩ := T.f_Told_report
  exact ⟨_, fd, _, _, T.cl_Told, T.m_Told_report, ok_Told_report T F, F.bindsN (fun _ _ _ _ _ _ us hl => match us, hl with | [_], _ => rfl), .nil⟩
def sp_play (K : PySem.W.Frag) : Sp := fun vs H Q _ => ∃ (k a : Addr) (d : Int) (rs : List RuleL) (xs : List V) (ds : List Deed), vs = [.ref k, .ref a] ∧ BookAt K H k d rs ∧ GoodB rs ∧ SqL K H a xs ∧ DeedsAt K H xs ds ∧ Playable ds ∧ ds.length ≤ 50000 ∧
  ∀ H' p, Same H H' → RepAt H H' p (runF rs d ds).2.2 → Q (.ref p) H'
/-- how the box stands, as boxes tells it; ys: the valid ones in ascending order -/
def StdAt (H0 H : Hp) (p : Addr) (S : BoxS) (ys : List Int) : Prop := ∃ l1 l2, H p = some (.tup [.bl S.ajar, .ref l1, .str S.tf, .ref l2, oV S.age]) ∧ H l1 = some (.lst (S.inside.map V.int)) ∧ H l2 = some (.lst (ys.map V.int)) ∧ l1 ≠ l2 ∧ H0 l1 = none ∧ H0 l2 = none ∧ H0 p = none ∧ ys.Perm S.valid ∧ ys.Pairwise (· ≤ ·)
def sp_Box_stands (K : PySem.W.Frag) : Sp := fun vs H Q _ => ∃ (b dx li dv ds dr : Addr) (S : BoxS), vs = [.ref b] ∧ H b = some (.ins (He.ga K "Box") dx (bxf S li dv ds dr)) ∧ H li = some (.lst (S.inside.map V.int)) ∧ H dv = some (.dK (kvT S.valid)) ∧ S.valid.length ≤ 50000 ∧ ∀ H' p ys, Same H H' → StdAt H H' p S ys → Q (.ref p) H'
set_option maxHeartbeats 2000000 in
theorem ok_Box_stands (T : Txt w K mg) {fd : FuncData} (F : FunD K d_Box_stands.name d_Box_stands.qual d_Box_stands.params d_Box_stands.body d_Box_stands.scope (d_Box_stands.dvs K) (d_Box_stands.kws K) (He.fAd K d_Box_stands.at_) fd) : FnOk P w K mg base C8.CX0 1 (He.fAd K d_Box_stands.at_) fd ["self"] (sp_Box_stands K) := by
  refine F.ok sc_Box_stands (fun vs H Q E h => ?_) (fun cdv A outer s H vs Q E hr h => ?_)
  · obtain ⟨b, dx, li, dv, ds, dr, S, rfl, _⟩ := h
    rfl
  · have hu := L2.hu_of hr
    obtain ⟨b, dx, li, dv, ds, dr, S, rfl, hb, hli, hdv, h64, q⟩ := h
    refine ⟨_, (PSs.nox ((pss_one (ps_ret (pe_tup (pa_cons (My.pe_fldK (K := K) rfl (pv 0) rfl) (pa_cons (pe_callTy (My.list_ofK (K := K) rfl) (by rfl) T.list (by decide +kernel) (pa_cons (My.pe_fldK (K := K) rfl (pv 0) rfl) pa_nil)) (pa_cons (My.pe_fldK (K := K) rfl (pv 0) rfl) (pa_cons (pe_callB (My.sortedW rfl) (by rfl) T.sorted (by decide +kernel) (pa_cons (My.pe_fldK (K := K) rfl (pv 0) rfl) pa_nil)) (pa_cons (My.pe_fldK (K := K) rfl (pv 0) rfl) pa_nil)))))))))), ?_⟩
    refine ⟨_, rfl, b, _, dx, _, _, rfl, hb, T.cl_Box, T.no_Box_ajar, rfl, ?_⟩
    refine ⟨_, rfl, b, _, dx, _, _, rfl, hb, T.cl_Box, T.no_Box_inside, rfl, li, _, rfl, .inl (SqL.of hli), fun l1 hl1 => ?_⟩
    have up1 : ∀ {c : Addr} {o : HO}, H c = some o → (upd H l1 (.lst (S.inside.map V.int))) c = some o := fun e => by rw [upd_ne (ne_of_none e hl1)]; exact e
    refine ⟨_, rfl, b, _, dx, _, _, rfl, up1 hb, T.cl_Box, T.no_Box_taken_for, rfl, ?_⟩
    refine ⟨_, rfl, b, _, dx, _, _, rfl, up1 hb, T.cl_Box, T.no_Box_valid, rfl, dv, _, S.valid, rfl, .inl (up1 hdv), by unfold kvT; rw [List.map_map]; rfl, Nat.le_trans h64 (by decide), fun ys l2 hy1 hy2 hl2 => ?_⟩
    obtain ⟨n21, hl2'⟩ := up_none hl2
    refine ⟨_, rfl, b, _, dx, _, _, rfl, (by rw [upd_ne (ne_of_none (up1 hb) hl2)]; exact up1 hb), T.cl_Box, T.no_Box_age, rfl, by show 5 ≤ sizeLine; decide, fun r hr => ?_⟩
    obtain ⟨nr2, hr'⟩ := up_none hr
    obtain ⟨nr1, hr''⟩ := up_none hr'
    refine q _ r ys ((same_new hl1).trans ((same_new hl2).trans (same_new hr))) ⟨l1, l2, upd_same, ?_, ?_, n21.symm, hl1, hl2', hr'', hy1, hy2⟩
    · rw [upd_ne nr1.symm, upd_ne n21.symm, upd_same]
    · rw [upd_ne nr2.symm, upd_same]
theorem c_Box_stands (T : Txt w K mg) : C8.Met P w K mg base 1 (He.ga K "Box") "stands" (sp_Box_stands K) [] := by
  obtain ⟨fd, F⟩ := T.f_Box_stands
  exact ⟨_, fd, _, _, T.cl_Box, T.m_Box_stands, ok_Box_stands T F, F.bindsN (fun _ _ _ _ _ _ us hl => match us, hl with | [_], _ => rfl), .nil⟩
def sp_boxes (K : PySem.W.Frag) : Sp := fun vs H Q _ => ∃ (k a : Addr) (d : Int) (rs : List RuleL) (xs : List V) (ds : List Deed), vs = [.ref k, .ref a] ∧ BookAt K H k d rs ∧ GoodB rs ∧ SqL K H a xs ∧ DeedsAt K H xs ds ∧ Playable ds ∧ ds.length ≤ 50000 ∧ (runF rs d ds).2.1.valid.length ≤ 50000 ∧
  ∀ H' p ys, Same H H' → StdAt H H' p (runF rs d ds).2.1 ys → Q (.ref p) H'
end
end K67

namespace K67
open PySem PySem.Spec PyProof.Rows L2 My
/-! ### lists, tuples and pots -/
theorem rawS {H H' : Hp} {a b : Addr} {n : Nat} {o : HO} (s : But [a] H H') (h : SpringAt H a n) (t : H b = some o) (no : ∀ i r, o ≠ .lst (.int i :: r)) : H' b = some o := s _ _ (by simpa using (h.ne t no).symm) t
theorem tupU {K : PySem.W.Frag} {H : Hp} {D b : Addr} {l xs : List V} {o : HO} (h : H D = some (.lst l)) (t : SqT K H b xs) : SqT K (upd H D o) b xs := by
  rcases t with (t | ⟨o, t⟩) | t
  · exact .inl (.inl (by rw [upd_ne (ne_of t h (fun z => by cases z))]; exact t))
  · exact .inl (.inr ⟨o, by rw [upd_ne (ne_of t h (fun z => by cases z))]; exact t⟩)
  · exact .inr t
/-- a tuple stands where only a list changes -/
theorem tup_but {K : PySem.W.Frag} {H H' : Hp} {L b : Addr} {l xs : List V} (s : But [L] H H') (h : H L = some (.lst l)) (t : SqT K H b xs) : SqT K H' b xs := by
  rcases t with (t | ⟨o, t⟩) | t
  · exact .inl (.inl (s _ _ (by simpa using (ne_of t h (fun z => by cases z))) t))
  · exact .inl (.inr ⟨o, s _ _ (by simpa using (ne_of t h (fun z => by cases z))) t⟩)
  · exact .inr t
theorem paired_app {α β : Type} {F : α → β → Prop} : ∀ {l : List α} {m : List β} {l2 : List α} {m2 : List β}, Paired F l m → Paired F l2 m2 → Paired F (l ++ l2) (m ++ m2)
  | _, _, _, _, .nil, h => h
  | _, _, _, _, .cons r t, h => .cons r (paired_app t h)
theorem paired_drop {α β : Type} {F : α → β → Prop} : ∀ {l : List α} {m : List β} (n : Nat), Paired F l m → Paired F (l.drop n) (m.drop n)
  | _, _, 0, h => h
  | _, _, _ + 1, .nil => .nil
  | _, _, n + 1, .cons _ t => paired_drop n t
theorem paired_flat {α β : Type} {F : α → β → Prop} {l : List α} {m : List β} (h : Paired F l m) : ∀ n : Nat, Paired F (List.replicate n l).flatten (List.replicate n m).flatten
  | 0 => .nil
  | n + 1 => by
    rw [List.replicate_succ, List.replicate_succ, List.flatten_cons, List.flatten_cons]
    exact paired_app h (paired_flat h n)
theorem paired_rev {α β : Type} {F : α → β → Prop} : ∀ {l : List α} {m : List β}, Paired F l m → Paired F l.reverse m.reverse
  | _, _, .nil => .nil
  | _, _, .cons r t => by
    rw [List.reverse_cons, List.reverse_cons]
    exact paired_app (paired_rev t) (.cons r .nil)
end K67

namespace K67
open PySem PySem.Spec PyProof.Rows L2 My
/-! ### data (as k20/P16, for laws without reports) -/
theorem dp_flatInts (K : PySem.W.Frag) (H : Hp) : ∀ l : List Int, DpAll K H (l.map V.int) (l.map PyData.int)
  | [] => .nil
  | a :: l => .cons (.int a) (dp_flatInts K H l)
theorem lay_ints : ∀ l : List Int, PyData.canLayAll0 (l.map PyData.int) = true
  | [] => rfl
  | a :: l => by
    show (true && PyData.canLayAll0 (l.map PyData.int)) = true
    rw [lay_ints l]
    rfl
theorem dep_ints : ∀ l : List Int, PyData.depthAll (l.map PyData.int) = 0
  | [] => rfl
  | a :: l => by
    show max 0 (PyData.depthAll (l.map PyData.int)) = 0
    rw [dep_ints l]
    rfl
/-- data that may be compared: laid out, of small depth -/
structure Sm (n : Nat) (d : PyData) : Prop where
  lay : d.canLay0 = true
  dep : d.depth ≤ n
theorem Sm.shaped {n : Nat} {d : PyData} (h : Sm n d) (e : n ≤ 64) : SeqAt.shaped d = true := Bool.and_eq_true_iff.mpr ⟨h.lay, decide_eq_true (Nat.le_trans h.dep e)⟩
theorem Sm.refl {n : Nat} {d : PyData} (h : Sm n d) : PyData.eqv d d = true := SeqAt.eqv_refl d h.lay
theorem sm_int (i : Int) : Sm 0 (.int i) := ⟨rfl, Nat.le_refl _⟩
theorem sm_bool (i : Bool) : Sm 0 (.bool i) := ⟨rfl, Nat.le_refl _⟩
theorem sm_none : Sm 0 .none := ⟨rfl, Nat.le_refl _⟩
theorem lay_all : ∀ {ds : List PyData} {n : Nat}, (∀ d ∈ ds, Sm n d) → PyData.canLayAll0 ds = true ∧ PyData.depthAll ds ≤ n
  | [], n, _ => ⟨rfl, Nat.zero_le _⟩
  | d :: ds, n, h => by
    obtain ⟨h1, h2⟩ := lay_all (ds := ds) fun x hx => h x (List.mem_cons_of_mem _ hx)
    have h3 := h d (List.mem_cons_self ..)
    refine ⟨Bool.and_eq_true_iff.mpr ⟨h3.lay, h1⟩, ?_⟩
    show max d.depth (PyData.depthAll ds) ≤ n
    exact Nat.max_le.mpr ⟨h3.dep, h2⟩
theorem sm_list {ds : List PyData} {n : Nat} (h : ∀ d ∈ ds, Sm n d) : Sm (n + 1) (.list ds) := ⟨(lay_all h).1, Nat.succ_le_succ (lay_all h).2⟩
theorem sm_tuple {ds : List PyData} {n : Nat} (h : ∀ d ∈ ds, Sm n d) : Sm (n + 1) (.tuple ds) := ⟨(lay_all h).1, Nat.succ_le_succ (lay_all h).2⟩
theorem Sm.mono {n m : Nat} {d : PyData} (h : Sm n d) (e : n ≤ m) : Sm m d := ⟨h.lay, Nat.le_trans h.dep e⟩
theorem sm_ints (l : List Int) : Sm 1 (.list (l.map PyData.int)) := sm_list fun d hd => by
  obtain ⟨i, _, rfl⟩ := List.mem_map.mp hd
  exact sm_int i
theorem sok {x : Str} (h : PyData.canLay0 (.str x) = true) : Sm 0 (.str x) := ⟨h, Nat.le_refl _⟩
def deedD : Deed → PyData
  | .bring l s => .tuple [.str "bring", .bool l, .bool s]
  | .code p t s => .tuple [.str "code", .int p, .bool t, .bool s]
  | .pass => .tuple [.str "pass"]
  | .day => .tuple [.str "day"]
  | .power => .tuple [.str "power"]
theorem sm_deed (d : Deed) : Sm 1 (deedD d) := by
  cases d with
  | bring l s =>
    refine sm_tuple fun d hd => ?_
    simp only [List.mem_cons, List.not_mem_nil, or_false] at hd
    rcases hd with rfl | rfl | rfl
    · exact sok (by decide +kernel)
    · exact sm_bool _
    · exact sm_bool _
  | code p t s =>
    refine sm_tuple fun d hd => ?_
    simp only [List.mem_cons, List.not_mem_nil, or_false] at hd
    rcases hd with rfl | rfl | rfl | rfl
    · exact sok (by decide +kernel)
    · exact sm_int _
    · exact sm_bool _
    · exact sm_bool _
  | _ =>
    refine sm_tuple fun d hd => ?_
    simp only [List.mem_cons, List.not_mem_nil, or_false] at hd
    rcases hd with rfl
    exact sok (by decide +kernel)
theorem dp_deed {K : PySem.W.Frag} {H : Hp} {v : V} {d : Deed} (h : DeedAt K H v d) : Dp K H v (deedD d) := by
  obtain ⟨a, rfl, h⟩ := h
  cases d with
  | bring l s => exact .tup h (.cons (.str _) (.cons (.bl _) (.cons (.bl _) .nil)))
  | code p t s => exact .tup h (.cons (.str _) (.cons (.int _) (.cons (.bl _) (.cons (.bl _) .nil))))
  | pass => exact .tup h (.cons (.str _) .nil)
  | day => exact .tup h (.cons (.str _) .nil)
  | power => exact .tup h (.cons (.str _) .nil)
theorem dp_deeds {K : PySem.W.Frag} {H : Hp} : ∀ {xs : List V} {ds : List Deed}, DeedsAt K H xs ds → DpAll K H xs (ds.map deedD)
  | _, _, .nil => .nil
  | _, _, .cons r t => .cons (dp_deed r) (dp_deeds t)
theorem sm_deeds (ds : List Deed) : Sm 2 (.list (ds.map deedD)) := sm_list fun d hd => by
  obtain ⟨i, _, rfl⟩ := List.mem_map.mp hd
  exact sm_deed i
theorem nilD {K : PySem.W.Frag} {H : Hp} {a : Addr} (h : H a = some (.lst [])) : Dp K H (.ref a) (.list []) := .lst (SqL.of h) .nil
theorem sm_nil : Sm 1 (.list []) := sm_list fun d hd => by cases hd
end K67

namespace K67
open PySem PySem.Spec PyProof.Rows L2 My
/-! ### numbers and lengths of texts -/
def numS (p : Int) : Str := Str.ofString (toString p)
theorem len_tl (x : Str) : x.length = (TL.tl x).length := by
  show x.cps.size = _
  rw [← Array.length_toList]
theorem len_of (s : String) : (Str.ofString s).length = s.length := by
  rw [len_tl, TL.tl_ofString, List.length_map, String.length_toList]
theorem num_len {p : Int} (h : 1 ≤ p ∧ p ≤ 1000000000) : (numS p).length ≤ 11 := by
  unfold numS
  rw [len_of]
  exact int_text_length_le10 (k := 10) (by decide) (by have : (10 : Nat) ^ 10 = 10000000000 := by decide
                                                       omega)
theorem num_log {p : Int} (h : 1 ≤ p ∧ p ≤ 1000000000) : p.natAbs.log2 < 1920 := by
  have h1 : p.natAbs < 2 ^ 40 := by
    have : (2 : Nat) ^ 40 > 1000000000 := by decide
    omega
  have : p.natAbs.log2 < 40 := (Nat.log2_lt (by omega)).mpr h1
  omega
theorem app_len {x y : Str} (a b : Nat) (h1 : x.length ≤ a) (h2 : y.length ≤ b) : (x ++ y).length ≤ a + b := by
  rw [len_tl] at *
  rw [TL.tl_append, List.length_append]
  omega
theorem cat_ok {x y : Str} (a b : Nat) (h1 : x.length ≤ a) (h2 : y.length ≤ b) (h : a + b ≤ 1000000 := by decide) : x.length + y.length ≤ sizeLine := Nat.le_of_lt (lt_line (by omega))
end K67

namespace K67
open PySem PySem.Spec PyProof.Rows L2 My StX
section
variable {P : Program} {w : World} {K : PySem.W.Frag} {mg : Str → Option Value} {base : Heap}
def sp_are_distinct_words (K : PySem.W.Frag) : Sp := fun vs H Q _ => ∃ (a b : Addr) (zs ws : List Str), vs = [.ref a, .ref b] ∧ SqT K H a (zs.map V.str) ∧ SqT K H b (ws.map V.str) ∧ zs.Nodup ∧ zs.length ≤ 100 ∧ (∀ z ∈ zs, z ∈ ws) ∧ ∀ H', Same H H' → Q (.bl true) H'
set_option maxHeartbeats 2000000 in
theorem ok_are_distinct_words (T : Txt w K mg) {fd : FuncData} (F : FunD K d_are_distinct_words.name d_are_distinct_words.qual d_are_distinct_words.params d_are_distinct_words.body d_are_distinct_words.scope (d_are_distinct_words.dvs K) (d_are_distinct_words.kws K) (He.fAd K d_are_distinct_words.at_) fd) : FnOk P w K mg base C8.CX0 2 (He.fAd K d_are_distinct_words.at_) fd ["value", "words"] (sp_are_distinct_words K) := by
  have c_is_word := c_is_word (P := P) (w := w) (base := base) T
  refine F.ok sc_are_distinct_words (fun vs H Q E h => ?_) (fun cdv A outer s H vs Q E hr h => ?_)
  · obtain ⟨a, b, zs, ws, rfl, _⟩ := h
    rfl
  · have hu := L2.hu_of hr
    obtain ⟨a, b, zs, ws, rfl, hz, hw, hd, hl, hm, q⟩ := h
    refine ⟨_, (PSs.nox ((pss_cons (ps_if (PW.pt (pw_or (pt_not (pt_val (pe_callB (My.isiK (K := K) rfl) (by rfl) T.isinstance (by decide +kernel) (pa_cons (pv 0) (pa_cons (pe_bltn (v := .ty "tuple") (u := .type "tuple") rfl T.tuple (by decide +kernel) rfl) pa_nil))))) (pw_or1 (pt_not (pt_val (pe_callB (My.allK (K := K) rfl rfl) (by rfl) T.all (by decide +kernel) (pa_cons (pe_lc (own := [("item", 2)]) (g := (gName 2)) (tt := tYes) (by rfl) sc_are_distinct_words.nd (My.pi_tupK (K := K) rfl (pv 0)) (blkOk_by (N := N_are_distinct_words) (sc := defScope s_are_distinct_words) (by decide +kernel)) (fun _ _ _ _ _ => (pg_name (i := 2) sc_are_distinct_words.nd rfl (by first | exact Or.inl rfl | exact Or.inr rfl))) (fun _ _ _ _ _ => pts_nil) (fun _ _ _ _ _ => (C8.pe_c c_is_word hr (by decide) rfl (pa_cons (pv 2) (pa_cons (pv 1) pa_nil))))) pa_nil)))))))
  (pss_one (ps_ret pe_bl))
  pss_nil)
  (pss_one (ps_ret (pe_cmpR op_eq (My.pe_lenSetT (K := K) rfl (by rfl) (by rfl) T.len (by rfl) T.set (pv 0)) (pe_callB (My.len_seqK (K := K) rfl) (by rfl) T.len (by decide +kernel) (pa_cons (pv 0) pa_nil)) (nomark _))))))), ?_⟩
    refine ⟨_, rfl, _, _, _, _, _, rfl, .ty "tuple", tyx_tup hz, L2.kit_ty (by decide +kernel), true, rfl, ?_⟩
    refine L2.iteF ?_
    refine ⟨_, rfl, a, rfl, ⟨_, hz⟩, fun D hD => lc_tup (K := K) (a := a) (xs := zs.map V.str) (fun i H' => Same H H' ∧ H' D = some (.lst ((List.replicate i true).map V.bl))) ⟨same_new hD, upd_same⟩ (fun i H' _ p => same_tup p.1 hz) ?_ ?_⟩
    · rintro i y H2 hi ⟨s2, hD2⟩
      obtain ⟨z, hzz, rfl⟩ := map_get hi
      have hlt : i < zs.length := (List.getElem?_eq_some_iff.mp hzz).1
      have hmz : z ∈ ws := hm z (List.mem_of_getElem? hzz)
      refine ⟨rfl, ?_⟩
      refine ⟨_, rfl, _, rfl, z, b, ws, rfl, same_tup s2 hw, ?_⟩
      rw [decide_eq_true hmz]
      refine ⟨_, hD2, ?_, same_upd s2 hD, ?_⟩
      · rw [List.length_map, List.length_replicate]
        exact lt_line (by omega)
      · rw [upd_same, List.replicate_succ', List.map_append]
        rfl
    · rintro H2 ⟨s2, hD2⟩
      refine ⟨D, _, rfl, SqL.of hD2, ?_⟩
      have e2 : (List.replicate (zs.map V.str).length true).all id = true := List.all_eq_true.mpr fun x hx => (List.mem_replicate.mp hx).2
      rw [e2]
      refine ⟨_, rfl, L2.iteF ?_⟩
      refine ⟨_, rfl, a, zs, rfl, same_tup s2 hz, hd, by omega, ?_⟩
      refine ⟨_, rfl, a, _, rfl, .inr (same_tup s2 hz), rfl, ?_⟩
      rw [List.length_map, decide_eq_true rfl]
      exact q _ s2
theorem c_are_distinct_words (T : Txt w K mg) : C8.Cal P w K mg base 2 "are_distinct_words" (sp_are_distinct_words K) [] := by
  obtain ⟨fd, F⟩ := T.f_are_distinct_words
  exact ⟨_, fd, _, _, ok_are_distinct_words T F, T.g_are_distinct_words, F.kp, F.bindsN (fun _ _ _ _ _ _ us hl => match us, hl with | [_, _], _ => rfl), .nil⟩
def takeR (zs : List Str) (rs gs : List RuleL) : List RuleL := (List.range 8).map fun i => if moms.getD i Str.empty ∈ zs then at_ gs i else at_ rs i
def sp_Book_taking (K : PySem.W.Frag) : Sp := fun vs H Q _ => ∃ (s g m : Addr) (d d2 : Int) (rs gs : List RuleL) (zs : List Str), vs = [.ref s, .ref g, .ref m] ∧ BookAt K H s d rs ∧ BookAt K H g d2 gs ∧ GoodB rs ∧ GoodB gs ∧ SqT K H m (zs.map V.str) ∧ zs.Nodup ∧ zs.length ≤ 100 ∧ (∀ z ∈ zs, z ∈ moms) ∧ 1 ≤ d ∧ d ≤ 30 ∧
  ∀ H' p, H p = none → Same H H' → BookAt K H' p d (takeR zs rs gs) → Q (.ref p) H'
set_option maxHeartbeats 2000000 in
theorem ok_Book_taking (T : Txt w K mg) {fd : FuncData} (F : FunD K d_Book_taking.name d_Book_taking.qual d_Book_taking.params d_Book_taking.body d_Book_taking.scope (d_Book_taking.dvs K) (d_Book_taking.kws K) (He.fAd K d_Book_taking.at_) fd) : FnOk P w K mg base C8.CX0 5 (He.fAd K d_Book_taking.at_) fd ["self", "good", "moments"] (sp_Book_taking K) := by
  have c_Book_init := c_Book_init (P := P) (w := w) (base := base) T
  have c_Book_rule := c_Book_rule (P := P) (w := w) (base := base) T
  have c_are_distinct_words := c_are_distinct_words (P := P) (w := w) (base := base) T
  refine F.ok sc_Book_taking (fun vs H Q E h => ?_) (fun cdv A outer s H vs Q E hr h => ?_)
  · obtain ⟨s, g, m, d, d2, rs, gs, zs, rfl, _⟩ := h
    rfl
  · have hu := L2.hu_of hr
    obtain ⟨s1, g, m, d, d2, rs, gs, zs, rfl, hs, hg, gr, gg, hm, hd, hl, hmm, h1, h2, q⟩ := h
    refine ⟨_, (PSs.nox ((pss_cons (ps_if (pt_not (pt_val (C8.pe_c c_are_distinct_words hr (by decide) rfl (pa_cons (pv 2) (pa_cons (pe_glob (v := .ref (He.ga K "MOMENTS")) rfl T.g_MOMENTS rfl) pa_nil)))))
  (pss_one ps_never)
  pss_nil)
  (pss_cons (ps_setLc (i := 3) (own := [("moment", 4)]) (g := (gName 4)) (tt := tYes) (by rfl) sc_Book_taking.nd rfl rfl (sw_true rfl rfl rfl (by decide +kernel)) (My.pi_tupK (K := K) rfl (pe_glob (v := .ref (He.ga K "MOMENTS")) rfl T.g_MOMENTS rfl)) (blkOk_by (N := N_Book_taking) (sc := defScope s_Book_taking) (by decide +kernel)) (fun _ _ _ _ _ => (pg_name (i := 4) sc_Book_taking.nd rfl (by first | exact Or.inl rfl | exact Or.inr rfl))) (fun _ _ _ _ _ => pts_nil) (fun _ _ _ _ _ => (pe_ifExp (pt_cmpR (My.in_seqK (K := K) rfl) (pv 4) (pv 2) (by rfl)) (C8.pe_mt c_Book_rule hr (by decide) (pv 1) (pa_cons (pv 4) pa_nil)) (C8.pe_mt c_Book_rule hr (by decide) (pv 0) (pa_cons (pv 4) pa_nil)))))
  (pss_one (ps_ret (My.pe_mkS2 c_Book_init hr (by decide) rfl (pa_cons (My.pe_fldK (K := K) rfl (pv 0) rfl) (My.pa_starK (K := K) rfl (pv 3) pa_nil))))))))), ?_⟩
    refine ⟨_, rfl, m, He.ga K "MOMENTS", zs, moms, rfl, hm, T.tup_MOMENTS _, hd, hl, hmm, fun H1 s2 => ⟨_, rfl, L2.iteF ?_⟩⟩
    have hs1 := hs.same s2
    have hg1 := hg.same s2
    have hm1 := same_tup s2 hm
    refine ⟨_, rfl, ⟨_, T.tup_MOMENTS _⟩, fun D hD => ?_⟩
    refine lc_tup (K := K) (xs := moms.map V.str) (fun i H' => Same H1 H' ∧ ∃ us : List Addr, H' D = some (.lst (us.map V.ref)) ∧ Paired (RuleAt K H') us ((takeR zs rs gs).take i)) ⟨same_new hD, [], upd_same, .nil⟩ (fun i H' _ p => T.tup_MOMENTS _) ?_ ?_
    · rintro i y H2 hi ⟨s3, us, hD2, hu⟩
      obtain ⟨z, hz, rfl⟩ := map_get hi
      have hi8 : i < 8 := (List.getElem?_eq_some_iff.mp hz).1
      have hul : us.length ≤ 8 := by
        rw [hu.length, List.length_take]
        unfold takeR
        rw [List.length_map, List.length_range]
        omega
      have hs2 := hs1.same s3
      have hg2 := hg1.same s3
      have hrow : (takeR zs rs gs)[i]? = some (if z ∈ zs then at_ gs i else at_ rs i) := by
        unfold takeR
        have eg : moms.getD i Str.empty = z := by
          rw [List.getD_eq_getElem?_getD, hz]
          rfl
        rw [List.getElem?_map, List.getElem?_range hi8]
        show some (if moms.getD i Str.empty ∈ zs then at_ gs i else at_ rs i) = _
        rw [eg]
      have add : ∀ a, RuleAt K H2 a (if z ∈ zs then at_ gs i else at_ rs i) → ∃ acc, H2 D = some (.lst acc) ∧ acc.length < sizeLine ∧ Same H1 (upd H2 D (.lst (acc ++ [V.ref a]))) ∧ ∃ us : List Addr, upd H2 D (.lst (acc ++ [V.ref a])) D = some (.lst (us.map V.ref)) ∧ Paired (RuleAt K (upd H2 D (.lst (acc ++ [V.ref a])))) us ((takeR zs rs gs).take (i + 1)) := fun a ha => by
        refine ⟨_, hD2, by rw [List.length_map]; exact lt_line (by omega), same_upd s3 hD, us ++ [a], by rw [upd_same, List.map_append]; rfl, ?_⟩
        rw [take_more hrow]
        exact Paired.snoc (paired_map (fun _ _ _ hh => tupU hD2 hh) hu) (tupU hD2 ha)
      refine ⟨rfl, ?_⟩
      refine ⟨_, rfl, _, rfl, m, _, rfl, .inr (same_tup s3 hm1), rfl, My.all_flat_str zs, _, rfl, ?_⟩
      have e0 : (if false = true then !(inV (.str z) (zs.map V.str)) else inV (.str z) (zs.map V.str)) = decide (z ∈ zs) := by rw [if_neg Bool.false_ne_true, My.inV_str]
      rw [e0]
      refine L2.ite2 (fun c => ?_) (fun c => ?_)
      · have c2 : z ∈ zs := of_decide_eq_true c
        rw [if_pos c2] at add
        obtain ⟨dxg, tg, ag, hgb, _⟩ := id hg2
        refine ⟨_, rfl, g, _, _, rfl, hgb, rfl, _, rfl, H2, g, d2, gs, z, i, at_ gs i, rfl, Same.refl _, hg2, hz, gg.get hi8, fun a ha => add a ha⟩
      · have c2 : z ∉ zs := fun e => c (decide_eq_true e)
        rw [if_neg c2] at add
        obtain ⟨dxs, ts, as, hsb, _⟩ := id hs2
        refine ⟨_, rfl, s1, _, _, rfl, hsb, rfl, _, rfl, H2, s1, d, rs, z, i, at_ rs i, rfl, Same.refl _, hs2, hz, gr.get hi8, fun a ha => add a ha⟩
    · rintro H2 ⟨s3, us, hD2, hu⟩
      have htl : (takeR zs rs gs).length = 8 := by
        unfold takeR
        rw [List.length_map, List.length_range]
      rw [List.take_of_length_le (by rw [htl]; exact Nat.le_refl _)] at hu
      have hs2 := hs1.same s3
      have tgood : ∀ r ∈ takeR zs rs gs, GoodRule r := fun r hr => by
        unfold takeR at hr
        obtain ⟨i, hi, rfl⟩ := List.mem_map.mp hr
        have hi8 := List.mem_range.mp hi
        split
        · exact gg.good _ (List.mem_of_getElem? (gg.get hi8))
        · exact gr.good _ (List.mem_of_getElem? (gr.get hi8))
      obtain ⟨dxb, t, as, hb, ht, hrs, hl8⟩ := id hs2
      refine ⟨_, rfl, s1, _, dxb, _, _, rfl, hb, T.cl_Book, T.no_Book__days, rfl, _, rfl, D, _, rfl, .inr (SqL.of hD2), ?_⟩
      intro x dx nx ndx nex
      have z1 : Same H2 (upd (upd H2 dx (.own x)) x (.ins (He.ga K "Book") dx [])) := (same_new ndx).trans (same_upd (Same.refl _) (by rw [upd_ne nex.symm]; exact nx))
      have z2 := s2.trans s3
      refine ⟨x, dx, d, us, takeR zs rs gs, by rw [List.append_nil, List.append_nil], upd_same, h1, h2, paired_map (fun a r _ hr => same_tup z1 hr) hu, htl, tgood, fun H' t2 bt hx ht2 => ⟨rfl, ?_⟩⟩
      have z3 : Same H2 H' := fun c o e => bt c o (by simpa using ne_of_none e nx) (z1 _ _ e)
      exact q _ x (z2.free nx) (z2.trans z3) ⟨dx, t2, _, hx, SqT.of ht2, paired_map (fun a r _ hr => same_tup z3 hr) hu, htl⟩
theorem c_Book_taking (T : Txt w K mg) : C8.Met P w K mg base 5 (He.ga K "Book") "taking" (sp_Book_taking K) [] := by
  obtain ⟨fd, F⟩ := T.f_Book_taking
  exact ⟨_, fd, _, _, T.cl_Book, T.m_Book_taking, ok_Book_taking T F, F.bindsN (fun _ _ _ _ _ _ us hl => match us, hl with | [_, _, _], _ => rfl), .nil⟩
def sp_Book_with_days (K : PySem.W.Frag) : Sp := fun vs H Q _ => ∃ (s : Addr) (d d2 : Int) (rs : List RuleL), vs = [.ref s, .int d2] ∧ BookAt K H s d rs ∧ GoodB rs ∧ 1 ≤ d2 ∧ d2 ≤ 30 ∧
  ∀ H' p, H p = none → Same H H' → BookAt K H' p d2 rs → Q (.ref p) H'
set_option maxHeartbeats 2000000 in
theorem ok_Book_with_days (T : Txt w K mg) {fd : FuncData} (F : FunD K d_Book_with_days.name d_Book_with_days.qual d_Book_with_days.params d_Book_with_days.body d_Book_with_days.scope (d_Book_with_days.dvs K) (d_Book_with_days.kws K) (He.fAd K d_Book_with_days.at_) fd) : FnOk P w K mg base C8.CX0 5 (He.fAd K d_Book_with_days.at_) fd ["self", "days"] (sp_Book_with_days K) := by
  have c_Book_init := c_Book_init (P := P) (w := w) (base := base) T
  refine F.ok sc_Book_with_days (fun vs H Q E h => ?_) (fun cdv A outer s H vs Q E hr h => ?_)
  · obtain ⟨s, d, d2, rs, rfl, _⟩ := h
    rfl
  · have hu := L2.hu_of hr
    obtain ⟨s1, d, d2, rs, rfl, hs, gr, h1, h2, q⟩ := h
    refine ⟨_, (PSs.nox ((pss_cons (ps_set (i := 2) sc_Book_with_days.nd rfl (by first | exact Or.inl rfl | exact Or.inr rfl) (My.pe_fldK (K := K) rfl (pv 0) rfl))
  (pss_one (ps_ret (My.pe_mkS2 c_Book_init hr (by decide) rfl (pa_cons (pv 1) (My.pa_starK (K := K) rfl (pv 2) pa_nil)))))))), ?_⟩
    obtain ⟨dxb, t, as, hb, ht, hrs, hl⟩ := id hs
    refine ⟨_, rfl, s1, _, dxb, _, _, rfl, hb, T.cl_Book, T.no_Book__rules, rfl, ?_⟩
    refine ⟨_, rfl, _, rfl, t, _, rfl, .inl ht, ?_⟩
    intro x dx nx ndx nex
    have z1 : Same H (upd (upd H dx (.own x)) x (.ins (He.ga K "Book") dx [])) := (same_new ndx).trans (same_upd (Same.refl _) (by rw [upd_ne nex.symm]; exact nx))
    refine ⟨x, dx, d2, as, rs, by rw [List.append_nil, List.append_nil], upd_same, h1, h2, paired_map (fun a r _ hr => same_tup z1 hr) hrs, hl, gr.good, fun H' t2 bt hx ht2 => ⟨rfl, ?_⟩⟩
    have z3 : Same H H' := fun c o e => bt c o (by simpa using ne_of_none e nx) (z1 _ _ e)
    exact q _ x nx z3 ⟨dx, t2, _, hx, SqT.of ht2, paired_map (fun a r _ hr => same_tup z3 hr) hrs, hl⟩
theorem c_Book_with_days (T : Txt w K mg) : C8.Met P w K mg base 5 (He.ga K "Book") "with_days" (sp_Book_with_days K) [] := by
  obtain ⟨fd, F⟩ := T.f_Book_with_days
  exact ⟨_, fd, _, _, T.cl_Book, T.m_Book_with_days, ok_Book_with_days T F, F.bindsN (fun _ _ _ _ _ _ us hl => match us, hl with | [_, _], _ => rfl), .nil⟩
end
end K67

namespace K67
open PySem PySem.Spec PyProof.Rows L2 My StX
section
variable {P : Program} {w : World} {K : PySem.W.Frag} {mg : Str → Option Value} {base : Heap}
def gK5 {α : Type} (us its ws : List α) : List α := us ++ ws.drop 4 ++ its.take 4 ++ (ws.take 4).reverse
set_option maxHeartbeats 4000000 in
theorem kn_Book_init_power_late_gone_taken_days (T : Txt w K mg) : My.MakN P w K mg base 3 "Book" (He.ga K "Book") (sp_Book_init K) 0 ["power", "late", "gone", "taken", "days"] (fun vs zs => gK5 vs (d_Book_init.dvs K) zs) := by
  obtain ⟨fd, F⟩ := T.f_Book_init
  obtain ⟨its, hb⟩ := F.kbindsD (ps := ["self", "days", "given", "laid", "left", "opened", "taken", "gone", "late", "power"]) 1 ["power", "late", "gone", "taken", "days"] (fun us its ws => gK5 us its ws) (by intro z; cases z)
    (fun r1 r2 r3 => ((r1.append (My.vals_drop 4 r3)).append (r2.take 4)).append (r3.take 4).reverse)
    (fun T kV doc pm an cdv ct us its ws h1 h2 h3 => match us, its, ws, h1, h2, h3 with | [_], [_, _, _, _, _, _, _, _], [_, _, _, _, _], _, _, _ => ⟨_, rfl, rfl⟩)
  exact ⟨_, fd, _, _, T.mk_Book, ok_Book_init T F, T.g_Book, hb⟩
def gK1 {α : Type} (us its ws : List α) : List α := us ++ its.take 1 ++ ws ++ its.drop 2
set_option maxHeartbeats 4000000 in
theorem kn_Book_init_laid (T : Txt w K mg) : My.MakN P w K mg base 3 "Book" (He.ga K "Book") (sp_Book_init K) 1 ["laid"] (fun vs zs => gK1 vs (d_Book_init.dvs K) zs) := by
  obtain ⟨fd, F⟩ := T.f_Book_init
  obtain ⟨its, hb⟩ := F.kbindsD (ps := ["self", "days", "given", "laid", "left", "opened", "taken", "gone", "late", "power"]) 2 ["laid"] (fun us its ws => gK1 us its ws) (by intro z; cases z)
    (fun r1 r2 r3 => ((r1.append (r2.take 1)).append r3).append (My.vals_drop 2 r2))
    (fun T kV doc pm an cdv ct us its ws h1 h2 h3 => match us, its, ws, h1, h2, h3 with | [_, _], [_, _, _, _, _, _, _, _], [_], _, _, _ => ⟨_, rfl, rfl⟩)
  exact ⟨_, fd, _, _, T.mk_Book, ok_Book_init T F, T.g_Book, hb⟩
def gK0 {α : Type} (us its ws : List α) : List α := us ++ ws ++ its
set_option maxHeartbeats 4000000 in
theorem kn_Book_init_none (T : Txt w K mg) : My.MakN P w K mg base 3 "Book" (He.ga K "Book") (sp_Book_init K) 1 [] (fun vs zs => gK0 vs (d_Book_init.dvs K) zs) := by
  obtain ⟨fd, F⟩ := T.f_Book_init
  obtain ⟨its, hb⟩ := F.kbindsD (ps := ["self", "days", "given", "laid", "left", "opened", "taken", "gone", "late", "power"]) 2 [] (fun us its ws => gK0 us its ws) (by intro z; cases z)
    (fun r1 r2 r3 => (r1.append r3).append r2)
    (fun T kV doc pm an cdv ct us its ws h1 h2 h3 => match us, its, ws, h1, h2, h3 with | [_, _], [_, _, _, _, _, _, _, _], [], _, _, _ => ⟨_, rfl, rfl⟩)
  exact ⟨_, fd, _, _, T.mk_Book, ok_Book_init T F, T.g_Book, hb⟩
theorem mn_Book_taking (T : Txt w K mg) : My.MetN P w K mg base 5 (He.ga K "Book") "taking" (sp_Book_taking K) ["good", "moments"] My.kwGm := by
  obtain ⟨fd, F⟩ := T.f_Book_taking
  exact ⟨_, fd, _, _, T.cl_Book, T.m_Book_taking, ok_Book_taking T F, My.kwm_of F fun _ _ _ _ _ _ _ _ _ => rfl⟩
theorem takeR_by {zs : List Str} {rs gs : List RuleL} (c : List Bool) (hc : ((List.range 8).map fun i => decide (moms.getD i Str.empty ∈ zs)) = c) : takeR zs rs gs = (List.range 8).map fun i => if c.getD i false = true then at_ gs i else at_ rs i := by
  subst hc
  unfold takeR
  refine List.map_congr_left fun i hi => ?_
  have h8 := List.mem_range.mp hi
  rw [List.getD_eq_getElem?_getD (l := (List.range 8).map fun i => decide (moms.getD i Str.empty ∈ zs)), List.getElem?_map, List.getElem?_range h8]
  show (if moms.getD i Str.empty ∈ zs then at_ gs i else at_ rs i) = if decide (moms.getD i Str.empty ∈ zs) = true then at_ gs i else at_ rs i
  by_cases h : moms.getD i Str.empty ∈ zs
  · rw [if_pos h, if_pos (show decide (moms.getD i Str.empty ∈ zs) = true from decide_eq_true h)]
  · rw [if_neg h, if_neg (show ¬ decide (moms.getD i Str.empty ∈ zs) = true from fun e => h (of_decide_eq_true e))]
theorem take_a {a0 a1 a2 a3 r0 r1 r2 r3 r4 r5 r6 r7 : RuleL} : takeR (moms.take 4) [a0, a1, a2, a3, r4, r5, r6, r7] [r0, r1, r2, r3, r4, r5, r6, r7] = [r0, r1, r2, r3, r4, r5, r6, r7] := by
  rw [takeR_by [true, true, true, true, false, false, false, false] (by decide +kernel)]
  rfl
theorem take_b {a0 a1 a2 a3 a4 a5 a6 a7 r0 r1 r2 r3 r4 r5 r6 r7 : RuleL} : takeR moms.reverse [a0, a1, a2, a3, a4, a5, a6, a7] [r0, r1, r2, r3, r4, r5, r6, r7] = [r0, r1, r2, r3, r4, r5, r6, r7] := by
  rw [takeR_by [true, true, true, true, true, true, true, true] (by decide +kernel)]
  rfl
theorem take_c {a0 a2 a3 a4 a5 a6 a7 r0 r1 r2 r3 r4 r5 r6 r7 : RuleL} : takeR (moms.take 1 ++ moms.drop 2) [a0, r1, a2, a3, a4, a5, a6, a7] [r0, r1, r2, r3, r4, r5, r6, r7] = [r0, r1, r2, r3, r4, r5, r6, r7] := by
  rw [takeR_by [true, false, true, true, true, true, true, true] (by decide +kernel)]
  rfl
end
end K67

namespace K67
open PySem PySem.Spec PyProof.Rows L2 My StX
/-! ### parts, sums and repeats of tuples, whatever object they are -/
theorem cut_to {xs : List V} {c : Nat} : cutV xs none (some (c : Int)) = xs.take c := by
  unfold cutV
  rw [HT.sIx_nat, HT.sIx_none, List.drop_zero, Nat.sub_zero]
  by_cases h : c ≤ xs.length
  · rw [Nat.min_eq_left h]
  · rw [Nat.min_eq_right (by omega), List.take_of_length_le (Nat.le_refl _), List.take_of_length_le (by omega)]
theorem cut_from {xs : List V} {c : Nat} : cutV xs (some (c : Int)) none = xs.drop c := by
  unfold cutV
  rw [HT.sIx_nat, HT.sIx_none]
  by_cases h : c ≤ xs.length
  · rw [Nat.min_eq_left h]
    exact List.take_of_length_le (by rw [List.length_drop]; exact Nat.le_refl _)
  · rw [Nat.min_eq_right (by omega), List.drop_length, List.drop_of_length_le (by omega), List.take_nil]
section
variable {K : PySem.W.Frag} {H : Hp} {t u : Addr} {xs ys : List V} {Q : VK} {σ : L2.St}
theorem slA_cut {lo hi : Option Int} (h : SqT K H t xs) (q : ∀ m H7, Same H H7 → SqT K H7 m (cutV xs lo hi) → Q (.ref m) H7) : rSlA K (.ref t) lo hi H Q := by
  refine ⟨t, xs, rfl, h, fun z => ?_, fun _ m hm => q m _ (same_new hm) (SqT.of upd_same)⟩
  have e : cutV xs lo hi = xs := by
    unfold cutV
    rw [z.1, z.2, Nat.sub_zero, List.drop_zero, List.take_length]
  exact q t H (Same.refl _) (by rw [e]; exact h)
theorem slA_from {i : Nat} (h : SqT K H t xs) (q : ∀ m H7, Same H H7 → SqT K H7 m (xs.drop i) → Q (.ref m) H7) : tNoPart σ H fun v H3 => rSlA K (.ref t) (some (i : Int)) v H3 Q :=
  slA_cut (lo := some (i : Int)) (hi := none) h (by rw [cut_from]; exact q)
theorem slA_to {i : Nat} (h : SqT K H t xs) (q : ∀ m H7, Same H H7 → SqT K H7 m (xs.take i) → Q (.ref m) H7) : rSlA K (.ref t) none (some (i : Int)) H Q :=
  slA_cut (lo := none) (hi := some (i : Int)) h (by rw [cut_to]; exact q)
theorem catA_of (h : SqT K H t xs) (h2 : SqT K H u ys) (hl : xs.length + ys.length ≤ sizeLine) (q : ∀ m H7, Same H H7 → SqT K H7 m (xs ++ ys) → Q (.ref m) H7) : rCatA K (.ref t) (.ref u) H Q := by
  refine ⟨t, u, xs, ys, rfl, rfl, h, h2, hl, fun e => ?_, fun _ e => ?_, fun _ _ m hm => q m _ (same_new hm) (SqT.of upd_same)⟩
  · exact q u H (Same.refl _) (by rw [e]; exact h2)
  · exact q t H (Same.refl _) (by rw [e, List.append_nil]; exact h)
theorem repA_of {k : Nat} (h : SqT K H t xs) (hne : xs ≠ []) (hk : k ≤ 1000) (hl : xs.length ≤ 1000) (q : ∀ m H7, Same H H7 → SqT K H7 m (List.replicate k xs).flatten → Q (.ref m) H7) : rRepA K (.ref t) (.int (k : Int)) H Q := by
  refine ⟨t, (k : Int), xs, rfl, rfl, h, hne, by omega, by omega, hl, fun e => ?_, fun _ m hm => ?_⟩
  · obtain rfl : k = 1 := by omega
    exact q t H (Same.refl _) (by
      have e1 : (List.replicate 1 xs).flatten = xs := by
        show xs ++ [] = xs
        rw [List.append_nil]
      rw [e1]; exact h)
  · refine q m _ (same_new hm) ?_
    have e : (k : Int).toNat = k := Int.toNat_natCast k
    have := SqT.of (K := K) (upd_same (H := H) (a := m) (o := .tup (List.replicate (k : Int).toNat xs).flatten))
    rw [e] at this ⊢
    exact this
end
theorem repA_of2 {K : PySem.W.Frag} {H : Hp} {t : Addr} {xs : List V} {Q : VK} {v : Int} {k : Nat} (e : v = (k : Int)) (h : SqT K H t xs) (hne : xs ≠ []) (hk : k ≤ 1000) (hl : xs.length ≤ 1000) (q : ∀ m H7, Same H H7 → SqT K H7 m (List.replicate k xs).flatten → Q (.ref m) H7) : rRepA K (.ref t) (.int v) H Q := by
  subst e
  exact repA_of h hne hk hl q
theorem repA_c {K : PySem.W.Frag} {H : Hp} {t : Addr} {xs : List V} {Q : VK} {σ : L2.St} {v : Int} {k : Nat} (e : v = (k : Int)) (h : SqT K H t xs) (hne : xs ≠ []) (hk : k ≤ 1000) (hl : xs.length ≤ 1000) (q : ∀ m H7, Same H H7 → SqT K H7 m (List.replicate k xs).flatten → Q (.ref m) H7) : tC (.int v) σ H fun y H2 => rRepA K (.ref t) y H2 Q := repA_of2 e h hne hk hl q
theorem flat_one {α : Type} (x : α) : ∀ k : Nat, (List.replicate k [x]).flatten = List.replicate k x
  | 0 => rfl
  | k + 1 => by
    rw [List.replicate_succ, List.replicate_succ, List.flatten_cons, flat_one x k]
    rfl
theorem paired_rep {α β : Type} {F : α → β → Prop} {a : α} {b : β} (h : F a b) : ∀ m : Nat, Paired F (List.replicate m a) (List.replicate m b)
  | 0 => .nil
  | m + 1 => by
    rw [List.replicate_succ, List.replicate_succ]
    exact .cons h (paired_rep h m)
end K67

namespace K67
open PySem PySem.Spec PyProof.Rows L2 My StX
theorem len8r {rs : List RuleL} (e : rs.length = 8) : ∃ r0 r1 r2 r3 r4 r5 r6 r7, rs = [r0, r1, r2, r3, r4, r5, r6, r7] := by
  match rs, e with
  | [r0, r1, r2, r3, r4, r5, r6, r7], _ => exact ⟨r0, r1, r2, r3, r4, r5, r6, r7, rfl⟩
/-- days and rules as a pair -/
def PlanAt (K : PySem.W.Frag) (H : Hp) (p : Addr) (d : Int) (rs : List RuleL) : Prop := ∃ (t : Addr) (as : List Addr), SqT K H p [.int d, .ref t] ∧ SqT K H t (as.map V.ref) ∧ Paired (RuleAt K H) as rs
theorem PlanAt.same {K : PySem.W.Frag} {H H' : Hp} {p : Addr} {d : Int} {rs : List RuleL} (s : Same H H') (h : PlanAt K H p d rs) : PlanAt K H' p d rs := by
  obtain ⟨t, as, h1, h2, h3⟩ := h
  exact ⟨t, as, same_tup s h1, same_tup s h2, paired_map (fun _ _ _ x => same_tup s x) h3⟩
theorem PlanAt.draw {K : PySem.W.Frag} {H H' : Hp} {a p : Addr} {n : Nat} {d : Int} {rs : List RuleL} (b : But [a] H H') (s : SpringAt H a n) (h : PlanAt K H p d rs) : PlanAt K H' p d rs := by
  obtain ⟨t, as, h1, h2, h3⟩ := h
  exact ⟨t, as, But.tupS b s h1, But.tupS b s h2, paired_map (fun _ _ _ x => But.tupS b s x) h3⟩
theorem PlanAt.putL {K : PySem.W.Frag} {H : Hp} {D p : Addr} {l : List V} {o : HO} {d : Int} {rs : List RuleL} (hD : H D = some (.lst l)) (h : PlanAt K H p d rs) : PlanAt K (upd H D o) p d rs := by
  obtain ⟨t, as, h1, h2, h3⟩ := h
  exact ⟨t, as, tupU hD h1, tupU hD h2, paired_map (fun _ _ _ x => tupU hD x) h3⟩
theorem BookAt.draw {K : PySem.W.Frag} {H H' : Hp} {a b : Addr} {n : Nat} {d : Int} {rs : List RuleL} (s : But [a] H H') (h : SpringAt H a n) (t : BookAt K H b d rs) : BookAt K H' b d rs := by
  obtain ⟨dx, u, qs, q1, q2, q3, q4⟩ := t
  exact ⟨dx, u, qs, rawS s h q1 (fun _ _ z => by cases z), But.tupS s h q2, paired_map (fun x y _ hx => But.tupS s h hx) q3, q4⟩
theorem BookAt.putL {K : PySem.W.Frag} {H : Hp} {D b : Addr} {l : List V} {o : HO} {d : Int} {rs : List RuleL} (hD : H D = some (.lst l)) (t : BookAt K H b d rs) : BookAt K (upd H D o) b d rs := by
  obtain ⟨dx, u, qs, q1, q2, q3, q4⟩ := t
  exact ⟨dx, u, qs, (upd_ne (ne_of q1 hD (fun z => by cases z))).trans q1, tupU hD q2, paired_map (fun x y _ hx => tupU hD hx) q3, q4⟩
theorem made_one {r0 r1 r2 r3 r4 r5 r6 r7 : RuleL} : ∀ {i : Nat}, i < 9 → takeR (moms.drop i).reverse ([r0, r1, r2, r3, r4, r5, r6, r7].take i ++ List.replicate (8 - i) []) (List.replicate i (["off"] : RuleL) ++ [r0, r1, r2, r3, r4, r5, r6, r7].drop i) = [r0, r1, r2, r3, r4, r5, r6, r7]
  | 0, _ => by rw [takeR_by [true, true, true, true, true, true, true, true] (by decide +kernel)]; rfl
  | 1, _ => by rw [takeR_by [false, true, true, true, true, true, true, true] (by decide +kernel)]; rfl
  | 2, _ => by rw [takeR_by [false, false, true, true, true, true, true, true] (by decide +kernel)]; rfl
  | 3, _ => by rw [takeR_by [false, false, false, true, true, true, true, true] (by decide +kernel)]; rfl
  | 4, _ => by rw [takeR_by [false, false, false, false, true, true, true, true] (by decide +kernel)]; rfl
  | 5, _ => by rw [takeR_by [false, false, false, false, false, true, true, true] (by decide +kernel)]; rfl
  | 6, _ => by rw [takeR_by [false, false, false, false, false, false, true, true] (by decide +kernel)]; rfl
  | 7, _ => by rw [takeR_by [false, false, false, false, false, false, false, true] (by decide +kernel)]; rfl
  | 8, _ => by rw [takeR_by [false, false, false, false, false, false, false, false] (by decide +kernel)]; rfl
  | _ + 9, h => absurd h (by omega)
theorem good_nil : GoodRule [] := ⟨Nat.zero_le _, fun x hx => by cases hx⟩
theorem good_off : GoodRule ["off"] := ⟨by decide, fun x hx => by rw [List.mem_singleton.mp hx]; exact of_decide_eq_true (by decide +kernel)⟩
theorem set_next {rs : List RuleL} {i : Nat} {r : RuleL} (hl : rs.length = 8) (hi : i < 8) (hr : rs[i]? = some r) : (rs.take i ++ List.replicate (8 - i) []).set i r = rs.take (i + 1) ++ List.replicate (8 - (i + 1)) [] := by
  have e : 8 - i = (8 - (i + 1)) + 1 := by omega
  rw [e, List.replicate_succ, List.set_append, if_neg (by rw [List.length_take]; omega), take_more hr, List.length_take, Nat.min_eq_left (by omega), Nat.sub_self, List.append_assoc]
  rfl
end K67

namespace K67
open PySem PySem.Spec PyProof.Rows L2 My StX
/-! ### the text of a book -/
def lineS (m : Str) (r : RuleL) : Str := Txt.join " " ((m ++ ":") :: r)
def linesN (n : Nat) (rs : List RuleL) : List Str := (List.range n).map fun i => lineS (moms.getD i Str.empty) (at_ rs i)
def linesS (d : Int) (rs : List RuleL) : List Str := ("days " ++ numS d) :: linesN 8 rs
def bookS (d : Int) (rs : List RuleL) : Str := Txt.join "\n" (linesS d rs)
theorem linesN_more (n : Nat) (rs : List RuleL) : linesN (n + 1) rs = linesN n rs ++ [lineS (moms.getD n Str.empty) (at_ rs n)] := by
  unfold linesN
  rw [List.range_succ, List.map_append]
  rfl
theorem joinL_len (a : List Nat) : ∀ ys : List (List Nat), (TL.joinL a ys).length ≤ (ys.map (·.length)).sum + ys.length * a.length
  | [] => Nat.zero_le _
  | [y] => by
    show y.length ≤ y.length + 0 + 1 * a.length
    omega
  | y :: z :: r => by
    have ih := joinL_len a (z :: r)
    show (y ++ (a ++ TL.joinL a (z :: r))).length ≤ y.length + ((z :: r).map (·.length)).sum + ((z :: r).length + 1) * a.length
    rw [List.length_append, List.length_append, Nat.add_mul]
    omega
theorem join_len (a : Str) (ys : List Str) : (Txt.join a ys).length ≤ (ys.map (·.length)).sum + ys.length * a.length := by
  have e : (ys.map TL.tl).map (·.length) = ys.map (·.length) := by
    rw [List.map_map]
    exact List.map_congr_left fun x _ => (len_tl x).symm
  have h := joinL_len (TL.tl a) (ys.map TL.tl)
  rw [e, List.length_map, ← len_tl] at h
  rw [len_tl, TL.join_eq, TL.tl_join]
  exact h
theorem act_len : ∀ x ∈ acts, x.length ≤ 4 := by decide +kernel
theorem mom_len (i : Nat) : (moms.getD i Str.empty).length ≤ 6 := by
  have h : ∀ x ∈ moms, x.length ≤ 6 := by decide +kernel
  rw [List.getD_eq_getElem?_getD]
  cases e : moms[i]? with
  | none => exact Nat.zero_le _
  | some x => exact h x (List.mem_of_getElem? e)
theorem rule_sum : ∀ {r : RuleL}, (∀ x ∈ r, x ∈ acts) → (r.map (·.length)).sum ≤ 4 * r.length
  | [], _ => Nat.le_refl _
  | x :: r, h => by
    have h1 := act_len x (h x (List.mem_cons_self ..))
    have h2 := rule_sum (r := r) fun y hy => h y (List.mem_cons_of_mem _ hy)
    show x.length + (r.map (·.length)).sum ≤ 4 * (r.length + 1)
    omega
theorem colon_len {m : Str} (h : m.length ≤ 6) : (m ++ ":").length ≤ 7 := app_len 6 1 h (by decide +kernel)
theorem line_pre {m : Str} {r : RuleL} (hm : m.length ≤ 6) (hr : GoodRule r) : (((m ++ ":") :: r).map (·.length)).sum + ((m ++ ":") :: r).length * (" " : Str).length ≤ 40 := by
  have h1 := colon_len hm
  have h2 := rule_sum hr.2
  have h3 := hr.1
  have e : (" " : Str).length = 1 := by decide +kernel
  rw [e]
  show (m ++ ":").length + (r.map (·.length)).sum + (r.length + 1) * 1 ≤ 40
  omega
theorem lineS_len {m : Str} {r : RuleL} (hm : m.length ≤ 6) (hr : GoodRule r) : (lineS m r).length ≤ 40 := Nat.le_trans (join_len _ _) (line_pre hm hr)
theorem linesN_sum {rs : List RuleL} (hg : GoodB rs) : ∀ n : Nat, n ≤ 8 → ((linesN n rs).map (·.length)).sum ≤ 40 * n
  | 0, _ => Nat.le_refl _
  | n + 1, h => by
    have h1 := linesN_sum hg n (by omega)
    have h2 := lineS_len (mom_len n) (hg.good _ (List.mem_of_getElem? (hg.get (i := n) (by omega))))
    rw [linesN_more, List.map_append, List.sum_append]
    show _ + ((lineS (moms.getD n Str.empty) (at_ rs n)).length + 0) ≤ _
    omega
theorem linesN_len (n : Nat) (rs : List RuleL) : (linesN n rs).length = n := by
  unfold linesN
  rw [List.length_map, List.length_range]
theorem days_len {d : Int} (h1 : 1 ≤ d) (h2 : d ≤ 30) : ("days " ++ numS d).length ≤ 16 := app_len 5 11 (by decide +kernel) (num_len ⟨h1, by omega⟩)
theorem book_pre {d : Int} {rs : List RuleL} (hg : GoodB rs) (h1 : 1 ≤ d) (h2 : d ≤ 30) : ((linesS d rs).map (·.length)).sum + (linesS d rs).length * ("\n" : Str).length ≤ 16777216 := by
  have e : ("\n" : Str).length = 1 := by decide +kernel
  have a := days_len h1 h2
  have b := linesN_sum hg 8 (by decide)
  have c := linesN_len 8 rs
  rw [e]
  show ("days " ++ numS d).length + ((linesN 8 rs).map (·.length)).sum + ((linesN 8 rs).length + 1) * 1 ≤ _
  omega
section
variable {P : Program} {w : World} {K : PySem.W.Frag} {mg : Str → Option Value} {base : Heap}
def sp_Book_rules (K : PySem.W.Frag) : Sp := fun vs H Q _ => ∃ (b : Addr) (d : Int) (rs : List RuleL), vs = [.ref b] ∧ BookAt K H b d rs ∧ ∀ t as, SqT K H t (as.map V.ref) → Paired (RuleAt K H) as rs → Q (.ref t) H
set_option maxHeartbeats 2000000 in
theorem ok_Book_rules (T : Txt w K mg) {fd : FuncData} (F : FunD K d_Book_rules.name d_Book_rules.qual d_Book_rules.params d_Book_rules.body d_Book_rules.scope (d_Book_rules.dvs K) (d_Book_rules.kws K) (He.fAd K d_Book_rules.at_) fd) : FnOk P w K mg base C8.CX0 1 (He.fAd K d_Book_rules.at_) fd ["self"] (sp_Book_rules K) := by
  refine F.ok sc_Book_rules (fun vs H Q E h => ?_) (fun cdv A outer s H vs Q E hr h => ?_)
  · obtain ⟨b, d, rs, rfl, _⟩ := h
    rfl
  · have hu := L2.hu_of hr
    obtain ⟨b, d, rs, rfl, ⟨dx, t, as, hb, ht, h3, _⟩, q⟩ := h
    refine ⟨_, (PSs.nox ((pss_one (ps_ret (My.pe_fldK (K := K) rfl (pv 0) rfl))))), ?_⟩
    exact ⟨_, rfl, b, _, dx, _, _, rfl, hb, T.cl_Book, T.no_Book__rules, rfl, q t as ht h3⟩
theorem c_Book_rules (T : Txt w K mg) : C8.Met P w K mg base 1 (He.ga K "Book") "rules" (sp_Book_rules K) [] := by
  obtain ⟨fd, F⟩ := T.f_Book_rules
  exact ⟨_, fd, _, _, T.cl_Book, T.m_Book_rules, ok_Book_rules T F, F.bindsN (fun _ _ _ _ _ _ us hl => match us, hl with | [_], _ => rfl), .nil⟩
def sp_book_text (K : PySem.W.Frag) : Sp := fun vs H Q _ => ∃ (b : Addr) (d : Int) (rs : List RuleL), vs = [.ref b] ∧ BookAt K H b d rs ∧ GoodB rs ∧ 1 ≤ d ∧ d ≤ 30 ∧ ∀ H', Same H H' → Q (.str (bookS d rs)) H'
set_option maxHeartbeats 2000000 in
theorem ok_book_text (T : Txt w K mg) {fd : FuncData} (F : FunD K d_book_text.name d_book_text.qual d_book_text.params d_book_text.body d_book_text.scope (d_book_text.dvs K) (d_book_text.kws K) (He.fAd K d_book_text.at_) fd) : FnOk P w K mg base C8.CX0 2 (He.fAd K d_book_text.at_) fd ["book"] (sp_book_text K) := by
  have c_Book_rules := c_Book_rules (P := P) (w := w) (base := base) T
  have c_Book_days := c_Book_days (P := P) (w := w) (base := base) T
  refine F.ok sc_book_text (fun vs H Q E h => ?_) (fun cdv A outer s H vs Q E hr h => ?_)
  · obtain ⟨b, d, rs, rfl, _⟩ := h
    rfl
  · have hu := L2.hu_of hr
    obtain ⟨b, d, rs, rfl, hB, hg, h1, h2, q⟩ := h
    refine ⟨_, (PSs.nox ((pss_cons (ps_set (i := 1) sc_book_text.nd rfl (by first | exact Or.inl rfl | exact Or.inr rfl) (pe_lst (pa_cons (pe_op op_add_str pe_str (pe_callTy call_str_int (by rfl) T.str (by decide +kernel) (pa_cons (C8.pe_mt0 c_Book_days hr (by decide) (pv 0)) pa_nil))) pa_nil)))
  (pss_cons (ps_for PassesOwn.never rfl (RZ.pi_zipA (by rfl) T.zip (pa_cons (pe_glob (v := .ref (He.ga K "MOMENTS")) rfl T.g_MOMENTS rfl) (pa_cons (C8.pe_mt0 c_Book_rules hr (by decide) (pv 0)) pa_nil))) (My.pg_tupK (K := K) (n := 2) rfl rfl (pgs_cons (pg_name (i := 2) sc_book_text.nd rfl (by first | exact Or.inl rfl | exact Or.inr rfl)) (pgs_cons (pg_name (i := 3) sc_book_text.nd rfl (by first | exact Or.inl rfl | exact Or.inr rfl)) pgs_nil)))
  (pss_one (ps_expr (My.pe_bmK (K := K) rfl PySem.F.plainAttrs_list PySem.F.slot_list_append PySem.F.type_list_append mt_append (pv 1) (pa_cons (My.pe_joinK (K := K) rfl pe_str (pe_lst (pa_cons (pe_op op_add_str (pv 2) pe_str) (My.pa_starK (K := K) rfl (pv 3) pa_nil)))) pa_nil)))))
  (pss_one (ps_ret (My.pe_joinK (K := K) rfl pe_str (pv 1)))))))), ?_⟩
    obtain ⟨dx, _, _, hb, _⟩ := id hB
    have hd := num_len (p := d) ⟨h1, by omega⟩
    refine ⟨_, rfl, b, dx, _, rfl, hb, rfl, b, d, rs, rfl, hB, d, rfl, num_log ⟨h1, by omega⟩, ?_⟩
    refine ⟨_, _, rfl, rfl, cat_ok 5 11 (by decide +kernel) hd, by show 1 ≤ sizeLine; decide, fun L hL => ?_⟩
    have yL := same_new (o := .lst [.str ("days " ++ Str.ofString (toString d))]) hL
    have hB1 := hB.same yL
    refine ⟨_, rfl, b, dx, _, rfl, yL _ _ hb, rfl, b, d, rs, rfl, hB1, fun t as ht h3 => ?_⟩
    have al8 : as.length = 8 := h3.length.trans hg.len
    have mem : ∀ {i : Nat} {x : Str}, moms[i]? = some x → moms.getD i Str.empty = x := fun e => by rw [List.getD_eq_getElem?_getD, e]; rfl
    have hL1 : upd H L (.lst [.str ("days " ++ Str.ofString (toString d))]) L = some (.lst [.str ("days " ++ numS d)]) := upd_same
    generalize upd H L (.lst [.str ("days " ++ Str.ofString (toString d))]) = H1 at ht h3 yL hB1 hL1
    refine ⟨_, _, moms.map V.str, as.map V.ref, rfl, .inr ⟨T.tup_MOMENTS _, ht, ?_⟩⟩
    refine RZ.for_zipT (K := K) (xs := moms.map V.str) (ys := as.map V.ref) (by rw [List.length_map, List.length_map, al8]; rfl) (fun i σ H' => ∃ u v, σ = [some (.ref b), some (.ref L), u, v] ∧ But [L] H1 H' ∧ Same H H' ∧ H' L = some (.lst ((("days " ++ numS d) :: linesN i rs).map V.str)))
      ⟨_, _, rfl, But.refl _ _, yL, hL1⟩ (fun i σ H' ⟨_, _, _, s, _⟩ => ⟨T.tup_MOMENTS _, tup_but s hL1 ht⟩) ?_ ?_
    · rintro i x y T2 σ H2 hx hy ⟨u, v, rfl, b2, s2, hL2⟩ hT2
      obtain ⟨m, hm, rfl⟩ := map_get hx
      obtain ⟨a, ha, rfl⟩ := map_get hy
      have hi8 : i < 8 := by
        have := (List.getElem?_eq_some_iff.mp ha).1
        omega
      obtain ⟨r, hr, hra⟩ := paired_at h3 ha
      have er := hg.get hi8
      rw [hr] at er
      have er := Option.some.inj er
      have gr := hg.good _ (List.mem_of_getElem? hr)
      have ml : m.length ≤ 6 := by rw [← mem hm]; exact mom_len i
      have yT := same_new (o := .tup [.str m, .ref a]) hT2
      have ra : RuleAt K (upd H2 T2 (.tup [.str m, .ref a])) a r := same_tup yT (tup_but b2 hL1 hra)
      refine ⟨_, _, rfl, SqT.of upd_same, rfl, _, _, rfl, _, _, rfl, rfl, ?_⟩
      refine ⟨_, rfl, .inl ⟨rfl, _, SqL.of (yT _ _ hL2)⟩, ⟨_, rfl⟩, _, rfl, _, _, rfl, rfl, cat_ok 6 1 ml (by decide +kernel), _, rfl, a, _, rfl, .inl ra, ?_⟩
      have en : (r.map V.str ++ ([] : List V)) = r.map V.str := List.append_nil _
      refine ⟨by
        show (V.str (m ++ ":") :: (r.map V.str ++ [])).length ≤ sizeLine
        rw [en, List.length_cons, List.length_map]
        have := gr.1
        exact Nat.le_of_lt (lt_line (by omega)), fun q1 hq1 => ?_⟩
      have yq := same_new (o := .lst (V.str (m ++ ":") :: (r.map V.str ++ []))) hq1
      refine ⟨" ", q1, (m ++ ":") :: r, rfl, rfl, .inl (SqL.of ?_), Nat.le_trans (line_pre ml gr) (by decide), ?_⟩
      · rw [upd_same, en]
        rfl
      refine ⟨L, _, _, rfl, rfl, yq _ _ (yT _ _ hL2), ?_, ?_⟩
      · rw [List.length_map, List.length_cons, linesN_len]
        exact lt_line (by omega)
      have z := yT.trans yq
      have hHL : H L = none := hL
      refine ⟨_, _, rfl, (b2.trans (But.of z)).put (.inr (by simp)), same_upd (s2.trans z) hHL, ?_⟩
      rw [upd_same, linesN_more, mem hm, ← er]
      show _ = some (HO.lst ((("days " ++ numS d) :: (linesN i rs ++ [lineS m r])).map V.str))
      rw [← List.cons_append, List.map_append]
      rfl
    · rintro σ H2 ⟨u, v, rfl, b2, s2, hL2⟩
      refine ⟨⟨_, rfl⟩, _, rfl, "\n", L, linesS d rs, rfl, rfl, .inl (SqL.of hL2), book_pre hg h1 h2, q _ s2⟩
theorem c_book_text (T : Txt w K mg) : C8.Cal P w K mg base 2 "book_text" (sp_book_text K) [] := by
  obtain ⟨fd, F⟩ := T.f_book_text
  exact ⟨_, fd, _, _, ok_book_text T F, T.g_book_text, F.kp, F.bindsN (fun _ _ _ _ _ _ us hl => match us, hl with | [_], _ => rfl), .nil⟩
theorem k_book_text (T : Txt w K mg) : My.CalK1 P w K mg base 2 "book_text" (sp_book_text K) "book" := by
  obtain ⟨fd, F⟩ := T.f_book_text
  exact ⟨_, fd, ok_book_text T F, T.g_book_text, F.kp, My.kw1_of F (fun _ _ _ _ _ _ _ => rfl)⟩
end
end K67

namespace K67
open PySem PySem.Spec PyProof.Rows L2 My StX
/-! ### rules as data -/
def ruleD (r : RuleL) : PyData := .tuple (r.map PyData.str)
def rulesD (rs : List RuleL) : PyData := .tuple (rs.map ruleD)
theorem dp_words {K : PySem.W.Frag} {H : Hp} : ∀ ws : List Str, DpAll K H (ws.map V.str) (ws.map PyData.str)
  | [] => .nil
  | x :: l => .cons (.str x) (dp_words l)
theorem dp_rule {K : PySem.W.Frag} {H : Hp} {a : Addr} {r : RuleL} (h : RuleAt K H a r) : Dp K H (.ref a) (ruleD r) := .tup h (dp_words r)
theorem dp_ruleL {K : PySem.W.Frag} {H : Hp} : ∀ {as : List Addr} {rs : List RuleL}, Paired (RuleAt K H) as rs → DpAll K H (as.map V.ref) (rs.map ruleD)
  | _, _, .nil => .nil
  | _, _, .cons r t => .cons (dp_rule r) (dp_ruleL t)
theorem dp_rules {K : PySem.W.Frag} {H : Hp} {t : Addr} {as : List Addr} {rs : List RuleL} (h : SqT K H t (as.map V.ref)) (h3 : Paired (RuleAt K H) as rs) : Dp K H (.ref t) (rulesD rs) := .tup h (dp_ruleL h3)
theorem act_lay : ∀ x ∈ acts, PyData.canLay0 (.str x) = true := by
  intro x hx
  simp only [acts, List.mem_cons, List.not_mem_nil, or_false] at hx
  rcases hx with rfl | rfl | rfl | rfl | rfl | rfl | rfl <;> decide +kernel
theorem sm_rule {r : RuleL} (h : GoodRule r) : Sm 1 (ruleD r) := sm_tuple fun d hd => by
  obtain ⟨x, hx, rfl⟩ := List.mem_map.mp hd
  exact sok (act_lay x (h.2 x hx))
theorem sm_rules {rs : List RuleL} (h : GoodB rs) : Sm 2 (rulesD rs) := sm_tuple fun d hd => by
  obtain ⟨r, hr, rfl⟩ := List.mem_map.mp hd
  exact sm_rule (h.good r hr)
end K67

namespace K67
open PySem PySem.Spec PyProof.Rows L2 My
/-! ### a number written and read -/
theorem numL_head : ∀ n : Nat, 1 ≤ n → ∃ c r, TL.numL n = c :: r ∧ c ≠ 48 := by
  intro n
  induction n using Nat.strongRecOn with
  | _ n ih =>
    intro h
    by_cases h10 : n < 10
    · exact ⟨48 + n, [], TL.numL_lt h10, by omega⟩
    · obtain ⟨c, r, e, hc⟩ := ih (n / 10) (by omega) (by omega)
      exact ⟨c, r ++ [48 + n % 10], by rw [TL.numL_step (by omega), e]; rfl, hc⟩
theorem numS_nat (n : Nat) : numS (n : Int) = Str.ofString (Nat.repr n) := rfl
theorem numS_tl (n : Nat) : TL.tl (numS (n : Int)) = TL.numL n := TL.tl_num n
theorem starts_no {x : Str} {c : Nat} {r : List Nat} (h : TL.tl x = c :: r) (hc : c ≠ 48) : Txt.startswith x "0" = false := by
  have e : Builtin.Str.subAt x "0" 0 = false := by
    rw [StrLaws.subAt_eq, List.drop_zero]
    show ((TL.tl x).take ("0" : Str).length == TL.tl ("0" : Str)) = false
    have e1 : ("0" : Str).length = 1 := by decide +kernel
    have e2 : TL.tl ("0" : Str) = [48] := by decide +kernel
    rw [h, e1, e2]
    show ([c] == [48]) = false
    exact beq_eq_false_iff_ne.mpr fun z => hc (List.cons.inj z).1
  unfold Txt.startswith
  rw [e, Bool.and_false]
theorem num_le {p m : Int} (h1 : 1 ≤ p) (h2 : p ≤ m) : (numS p).length ≤ (numS m).length := by
  obtain ⟨a, rfl⟩ : ∃ a : Nat, p = (a : Int) := ⟨p.toNat, by omega⟩
  obtain ⟨b, rfl⟩ : ∃ b : Nat, m = (b : Int) := ⟨m.toNat, by omega⟩
  rw [numS_nat, numS_nat, len_of, len_of]
  have hk : 0 < (Nat.repr b).length := by
    have := TL.numL_ne b
    rw [← numS_tl, numS_nat] at this
    have e := len_of (Nat.repr b)
    rw [len_tl] at e
    rw [← e]
    exact List.length_pos_iff.mpr this
  refine (Nat.length_repr_le_iff hk).mpr ?_
  have := (Nat.length_repr_le_iff hk).mp (Nat.le_refl (Nat.repr b).length)
  omega
theorem num_int {p : Int} (h : 1 ≤ p ∧ p ≤ 1000000000) : intText? (numS p) = some p := by
  obtain ⟨a, rfl⟩ : ∃ a : Nat, p = (a : Int) := ⟨p.toNat, by omega⟩
  refine TL.int_num ?_
  have := num_len h
  rw [len_tl, numS_tl] at this
  omega
theorem num_sign {p : Int} (h : 1 ≤ p) : ∀ c ∈ (numS p).cps.toList, c ∈ ("0123456789" : Str).cps.toList := by
  obtain ⟨a, rfl⟩ : ∃ a : Nat, p = (a : Int) := ⟨p.toNat, by omega⟩
  intro c hc
  have h1 : c ∈ TL.numL a := by rw [← numS_tl]; exact hc
  have h2 := TL.numL_digits a c h1
  have e : ("0123456789" : Str).cps.toList = [48, 49, 50, 51, 52, 53, 54, 55, 56, 57] := by decide +kernel
  rw [e]
  simp only [List.mem_cons, List.not_mem_nil, or_false]
  omega
theorem num_no0 {p : Int} (h : 1 ≤ p) : Txt.startswith (numS p) "0" = false := by
  obtain ⟨a, rfl⟩ : ∃ a : Nat, p = (a : Int) := ⟨p.toNat, by omega⟩
  obtain ⟨c, r, e, hc⟩ := numL_head a (by omega)
  exact starts_no (by rw [numS_tl, e]) hc
theorem num_ne {p : Int} (h : 1 ≤ p) : numS p ≠ "" := by
  obtain ⟨a, rfl⟩ : ∃ a : Nat, p = (a : Int) := ⟨p.toNat, by omega⟩
  intro z
  have := numS_tl a
  rw [z] at this
  exact TL.numL_ne a (this.symm.trans (by decide +kernel))
section
variable {P : Program} {w : World} {K : PySem.W.Frag} {mg : Str → Option Value} {base : Heap}
def sp_lines_of (K : PySem.W.Frag) : Sp := fun vs H Q _ => ∃ x : Str, vs = [.str x] ∧ x.length + 2 ≤ sizeLine ∧ ∀ p, H p = none → Q (.ref p) (upd H p (.lst ((Txt.split x "\n").map V.str)))
set_option maxHeartbeats 2000000 in
theorem ok_lines_of (T : Txt w K mg) {fd : FuncData} (F : FunD K d_lines_of.name d_lines_of.qual d_lines_of.params d_lines_of.body d_lines_of.scope (d_lines_of.dvs K) (d_lines_of.kws K) (He.fAd K d_lines_of.at_) fd) : FnOk P w K mg base C8.CX0 1 (He.fAd K d_lines_of.at_) fd ["text"] (sp_lines_of K) := by
  refine F.ok sc_lines_of (fun vs H Q E h => ?_) (fun cdv A outer s H vs Q E hr h => ?_)
  · obtain ⟨x, rfl, _⟩ := h
    rfl
  · have hu := L2.hu_of hr
    obtain ⟨x, rfl, hl, q⟩ := h
    refine ⟨_, (PSs.nox ((pss_cons (ps_if (pt_not (pt_val (pe_callB (My.isiK (K := K) rfl) (by rfl) T.isinstance (by decide +kernel) (pa_cons (pv 0) (pa_cons (pe_bltn (v := .ty "str") (u := .type "str") rfl T.str (by decide +kernel) rfl) pa_nil)))))
  (pss_one ps_never)
  pss_nil)
  (pss_one (ps_ret (pe_split (pv 0) pe_str)))))), ?_⟩
    refine ⟨_, rfl, _, _, _, _, true, rfl, .ty "str", .base (.str _), L2.kit_ty (by decide +kernel), true, rfl, ?_⟩
    exact ⟨_, rfl, ⟨_, rfl⟩, x, "\n", rfl, rfl, by decide +kernel, hl, q⟩
theorem c_lines_of (T : Txt w K mg) : C8.Cal P w K mg base 1 "lines_of" (sp_lines_of K) [] := by
  obtain ⟨fd, F⟩ := T.f_lines_of
  exact ⟨_, fd, _, _, ok_lines_of T F, T.g_lines_of, F.kp, F.bindsN (fun _ _ _ _ _ _ us hl => match us, hl with | [_], _ => rfl), .nil⟩
def sp_read_number (K : PySem.W.Frag) : Sp := fun vs H Q _ => ∃ p m : Int, vs = [.str (numS p), .int m] ∧ 1 ≤ p ∧ p ≤ m ∧ m ≤ 1000000000 ∧ ∀ H', Same H H' → Q (.int p) H'
set_option maxHeartbeats 2000000 in
theorem ok_read_number (T : Txt w K mg) {fd : FuncData} (F : FunD K d_read_number.name d_read_number.qual d_read_number.params d_read_number.body d_read_number.scope (d_read_number.dvs K) (d_read_number.kws K) (He.fAd K d_read_number.at_) fd) : FnOk P w K mg base C8.CX0 1 (He.fAd K d_read_number.at_) fd ["figures", "most"] (sp_read_number K) := by
  obtain ⟨t_FIGURES, g_FIGURES⟩ := T.g_FIGURES
  refine F.ok sc_read_number (fun vs H Q E h => ?_) (fun cdv A outer s H vs Q E hr h => ?_)
  · obtain ⟨p, m, rfl, _⟩ := h
    rfl
  · have hu := L2.hu_of hr
    obtain ⟨p, m, rfl, h1, h2, h3, q⟩ := h
    refine ⟨_, (PSs.nox ((pss_cons (ps_if (PW.pt (pw_or (pt_cmpR op_eq (pv 0) pe_str (nomark _)) (pw_or (pt_val (pe_m1 PySem.F.slot_str_startswith PySem.F.type_str_startswith mt_startswith (pv 0) pe_str)) (pw_or1 (pt_not (pt_val (pe_callB (My.allK (K := K) rfl rfl) (by rfl) T.all (by decide +kernel) (pa_cons (pe_lc (own := [("figure", 2)]) (g := (gName 2)) (tt := tYes) (by rfl) sc_read_number.nd (pi_str (pv 0)) (blkOk_by (N := N_read_number) (sc := defScope s_read_number) (by decide +kernel)) (fun _ _ _ _ _ => (pg_name (i := 2) sc_read_number.nd rfl (by first | exact Or.inl rfl | exact Or.inr rfl))) (fun _ _ _ _ _ => pts_nil) (fun _ _ _ _ _ => (pe_cmpR op_in_sign (pv 2) (pe_glob (v := .str "0123456789") rfl g_FIGURES ⟨_, rfl⟩) (by rfl)))) pa_nil))))))))
  (pss_one (ps_ret pe_non))
  pss_nil)
  (pss_cons (ps_if (PW.pt (pw_or (pt_cmpR op_gt (pe_callB (My.len_anyK (K := K) rfl) (by rfl) T.len (by decide +kernel) (pa_cons (pv 0) pa_nil)) (pe_callB (My.len_anyK (K := K) rfl) (by rfl) T.len (by decide +kernel) (pa_cons (pe_callTy call_str_int (by rfl) T.str (by decide +kernel) (pa_cons (pv 1) pa_nil)) pa_nil)) (nomark _)) (pw_or1 (pt_cmpR op_gt (pe_callTy call_int_str (by rfl) T.int (by decide +kernel) (pa_cons (pv 0) pa_nil)) (pv 1) (nomark _)))))
  (pss_one (ps_ret pe_non))
  pss_nil)
  (pss_one (ps_ret (pe_callTy call_int_str (by rfl) T.int (by decide +kernel) (pa_cons (pv 0) pa_nil)))))))), ?_⟩
    have hp : 1 ≤ p ∧ p ≤ 1000000000 := ⟨h1, by omega⟩
    have hm : 1 ≤ m ∧ m ≤ 1000000000 := ⟨by omega, h3⟩
    refine ⟨_, rfl, rfl, _, rfl, ?_⟩
    rw [decide_eq_false (show ¬ V.str (numS p) = V.str "" from fun z => num_ne h1 (V.str.inj z))]
    refine ⟨_, rfl, ⟨_, rfl⟩, _, _, rfl, rfl, _, rfl, ?_⟩
    rw [num_no0 h1]
    refine ⟨_, rfl, _, rfl, fun D hD => ?_⟩
    refine lc_it (walk_str (z := numS p)) (fun i H' => Same H H' ∧ H' D = some (.lst ((List.replicate i true).map V.bl))) ⟨same_new hD, upd_same⟩ (fun _ _ _ _ => trivial) ?_ ?_
    · rintro i y H2 H3 hi ⟨s2, hD2⟩ ⟨rfl, c, hc, rfl⟩
      refine ⟨rfl, ?_⟩
      have hmem : c ∈ (numS p).cps.toList := by
        have e := Array.getElem?_toList (xs := (numS p).cps) (i := i)
        rw [hc] at e
        exact List.mem_of_getElem? e
      refine ⟨_, rfl, c, "0123456789", rfl, rfl, ?_⟩
      rw [decide_eq_true (num_sign h1 c hmem)]
      have hsz : i < 11 := Nat.lt_of_lt_of_le hi (num_len hp)
      refine ⟨_, hD2, ?_, same_upd s2 hD, ?_⟩
      · rw [List.length_map, List.length_replicate]
        exact lt_line (by omega)
      · rw [upd_same, List.replicate_succ', List.map_append]
        rfl
    rintro H2 ⟨s2, hD2⟩
    refine ⟨D, _, rfl, SqL.of hD2, _, rfl, ?_⟩
    have e2 : (List.replicate (numS p).cps.size true).all id = true := List.all_eq_true.mpr fun x hx => (List.mem_replicate.mp hx).2
    rw [e2]
    have l1 := num_len hp
    have l2 := num_len hm
    have l3 := num_le h1 h2
    refine ⟨_, rfl, _, _, rfl, ⟨Nat.le_of_lt (lt_line (by omega)), rfl⟩, ?_⟩
    refine ⟨_, rfl, m, rfl, num_log hm, V.str (numS m), _, rfl, ⟨Nat.le_of_lt (lt_line (by omega)), rfl⟩, _, _, rfl, rfl, _, rfl, ?_⟩
    rw [decide_eq_false (show ¬ (((numS m).length : Nat) : Int) < (((numS p).length : Nat) : Int) by omega)]
    refine ⟨_, rfl, _, p, rfl, num_int hp, by omega, _, rfl, _, _, rfl, rfl, _, rfl, ?_⟩
    rw [decide_eq_false (show ¬ m < p by omega)]
    exact ⟨_, rfl, _, p, rfl, num_int hp, by omega, q _ s2⟩
theorem c_read_number (T : Txt w K mg) : C8.Cal P w K mg base 1 "read_number" (sp_read_number K) [] := by
  obtain ⟨fd, F⟩ := T.f_read_number
  exact ⟨_, fd, _, _, ok_read_number T F, T.g_read_number, F.kp, F.bindsN (fun _ _ _ _ _ _ us hl => match us, hl with | [_, _], _ => rfl), .nil⟩
end
end K67

namespace K67
open PySem PySem.Spec PyProof.Rows L2 My StX
/-! ### the text of a book, read -/
theorem days_part {d : Int} : Txt.partition ("days " ++ numS d) " " = (("days" : Str), (" " : Str), numS d) := by
  have e : ("days " ++ numS d : Str) = "days" ++ " " ++ numS d := by
    have e2 : ("days " : Str) = "days" ++ " " := by decide +kernel
    rw [e2]
  rw [e]
  exact TL.partition_app (y := " ") (s := 32) (S := []) (by decide +kernel) (by decide +kernel)
theorem words_split {m : Str} {r : RuleL} (hm : m ∈ moms) (hr : GoodRule r) : Txt.split (lineS m r) " " = (m ++ ":") :: r := by
  refine TL.split_join (y := " ") (s := 32) (S := []) (by decide +kernel) (by decide +kernel) (fun z => by cases z) fun p hp => ?_
  rcases List.mem_cons.mp hp with z | z
  · subst z
    rw [TL.tl_append]
    have h1 : ∀ x ∈ moms, 32 ∉ TL.tl x := by decide +kernel
    intro hc
    rcases List.mem_append.mp hc with hc | hc
    · exact h1 m hm hc
    · exact absurd hc (by decide +kernel)
  · have h1 : ∀ x ∈ acts, 32 ∉ TL.tl x := by decide +kernel
    exact h1 p (hr.2 p z)
theorem joinL_free {s : Nat} {S : List Nat} (hS : s ∉ S) : ∀ {ys : List (List Nat)}, (∀ y ∈ ys, s ∉ y) → s ∉ TL.joinL S ys
  | [], _ => fun h => by cases h
  | [y], h => h y (List.mem_cons_self ..)
  | y :: z :: r, h => by
    show s ∉ y ++ (S ++ TL.joinL S (z :: r))
    intro hc
    rcases List.mem_append.mp hc with hc | hc
    · exact h y (List.mem_cons_self ..) hc
    · rcases List.mem_append.mp hc with hc | hc
      · exact hS hc
      · exact joinL_free hS (fun x hx => h x (List.mem_cons_of_mem _ hx)) hc
theorem line_free {m : Str} {r : RuleL} (hm : m ∈ moms) (hr : GoodRule r) : 10 ∉ TL.tl (lineS m r) := by
  unfold lineS
  rw [TL.join_eq, TL.tl_join]
  refine joinL_free (by decide +kernel) fun y hy => ?_
  obtain ⟨p, hp, rfl⟩ := List.mem_map.mp hy
  rcases List.mem_cons.mp hp with z | z
  · subst z
    rw [TL.tl_append]
    have h1 : ∀ x ∈ moms, 10 ∉ TL.tl x := by decide +kernel
    intro hc
    rcases List.mem_append.mp hc with hc | hc
    · exact h1 m hm hc
    · exact absurd hc (by decide +kernel)
  · have h1 : ∀ x ∈ acts, 10 ∉ TL.tl x := by decide +kernel
    exact h1 p (hr.2 p z)
theorem num_free {p : Int} (h : 1 ≤ p) : 10 ∉ TL.tl (numS p) ∧ 32 ∉ TL.tl (numS p) := by
  obtain ⟨a, rfl⟩ : ∃ a : Nat, p = (a : Int) := ⟨p.toNat, by omega⟩
  rw [numS_tl]
  exact ⟨TL.numL_free (by omega), TL.numL_free (by omega)⟩
theorem moms_at {i : Nat} (hi : i < 8) : moms.getD i Str.empty ∈ moms := by
  rw [List.getD_eq_getElem?_getD, List.getElem?_eq_getElem (show i < moms.length from hi)]
  exact List.getElem_mem _
theorem book_split {d : Int} {rs : List RuleL} (hg : GoodB rs) (h1 : 1 ≤ d) : Txt.split (bookS d rs) "\n" = linesS d rs := by
  refine TL.split_join (y := "\n") (s := 10) (S := []) (by decide +kernel) (by decide +kernel) (fun z => by cases z) fun p hp => ?_
  rcases List.mem_cons.mp hp with z | z
  · subst z
    rw [TL.tl_append]
    intro hc
    rcases List.mem_append.mp hc with hc | hc
    · exact absurd hc (by decide +kernel)
    · exact (num_free h1).1 hc
  · obtain ⟨i, hi, rfl⟩ := List.mem_map.mp z
    have hi8 := List.mem_range.mp hi
    exact line_free (moms_at hi8) (hg.good _ (List.mem_of_getElem? (hg.get hi8)))
theorem book_len {d : Int} {rs : List RuleL} (hg : GoodB rs) (h1 : 1 ≤ d) (h2 : d ≤ 30) : (bookS d rs).length ≤ 1000 := by
  have e : ("\n" : Str).length = 1 := by decide +kernel
  have a := days_len h1 h2
  have b := linesN_sum hg 8 (by decide)
  have c := linesN_len 8 rs
  have j := join_len "\n" (linesS d rs)
  rw [e] at j
  have s : ((linesS d rs).map (·.length)).sum = ("days " ++ numS d).length + ((linesN 8 rs).map (·.length)).sum := rfl
  have l : (linesS d rs).length = 9 := by
    show (linesN 8 rs).length + 1 = 9
    rw [c]
  rw [s, l] at j
  show (Txt.join "\n" (linesS d rs)).length ≤ 1000
  omega
section
variable {P : Program} {w : World} {K : PySem.W.Frag} {mg : Str → Option Value} {base : Heap}
def sp_read_days (K : PySem.W.Frag) : Sp := fun vs H Q _ => ∃ d : Int, vs = [.str ("days " ++ numS d)] ∧ 1 ≤ d ∧ d ≤ 30 ∧ ∀ H', Same H H' → Q (.int d) H'
set_option maxHeartbeats 2000000 in
theorem ok_read_days (T : Txt w K mg) {fd : FuncData} (F : FunD K d_read_days.name d_read_days.qual d_read_days.params d_read_days.body d_read_days.scope (d_read_days.dvs K) (d_read_days.kws K) (He.fAd K d_read_days.at_) fd) : FnOk P w K mg base C8.CX0 2 (He.fAd K d_read_days.at_) fd ["line"] (sp_read_days K) := by
  obtain ⟨t_MOST_DAYS, g_MOST_DAYS⟩ := T.g_MOST_DAYS
  have c_read_number := c_read_number (P := P) (w := w) (base := base) T
  refine F.ok sc_read_days (fun vs H Q E h => ?_) (fun cdv A outer s H vs Q E hr h => ?_)
  · obtain ⟨d, rfl, _⟩ := h
    rfl
  · have hu := L2.hu_of hr
    obtain ⟨d, rfl, h1, h2, q⟩ := h
    refine ⟨_, (PSs.nox ((pss_cons (ps_asg (pe_partition (pv 0) pe_str) (My.pg_tupK (K := K) (n := 3) rfl rfl (pgs_cons (pg_name (i := 1) sc_read_days.nd rfl (by first | exact Or.inl rfl | exact Or.inr rfl)) (pgs_cons (pg_name (i := 2) sc_read_days.nd rfl (by first | exact Or.inl rfl | exact Or.inr rfl)) (pgs_cons (pg_name (i := 3) sc_read_days.nd rfl (by first | exact Or.inl rfl | exact Or.inr rfl)) pgs_nil)))))
  (pss_one (ps_ret (pe_ifExp (pt_cmpR op_eq (pv 1) pe_str (nomark _)) (C8.pe_c c_read_number hr (by decide) rfl (pa_cons (pv 3) (pa_cons (pe_glob (v := .int 30) rfl g_MOST_DAYS ⟨_, rfl⟩) pa_nil))) pe_non)))))), ?_⟩
    refine ⟨_, rfl, ⟨_, rfl⟩, _, " ", rfl, rfl, by decide +kernel, Nat.le_of_lt (lt_line (Nat.le_trans (days_len h1 h2) (by decide))), fun p hp => ?_⟩
    rw [days_part]
    have yp := same_new (o := .tup [V.str "days", .str " ", .str (numS d)]) hp
    refine ⟨p, _, rfl, SqT.of upd_same, rfl, _, _, rfl, _, _, rfl, _, _, rfl, rfl, ?_⟩
    refine ⟨_, rfl, rfl, _, rfl, ?_⟩
    rw [decide_eq_true (show V.str "days" = V.str "days" from rfl)]
    exact ⟨_, rfl, d, 30, rfl, h1, h2, by decide, fun H' s' => q _ (yp.trans s')⟩
theorem c_read_days (T : Txt w K mg) : C8.Cal P w K mg base 2 "read_days" (sp_read_days K) [] := by
  obtain ⟨fd, F⟩ := T.f_read_days
  exact ⟨_, fd, _, _, ok_read_days T F, T.g_read_days, F.kp, F.bindsN (fun _ _ _ _ _ _ us hl => match us, hl with | [_], _ => rfl), .nil⟩
def sp_read_rule (K : PySem.W.Frag) : Sp := fun vs H Q _ => ∃ (m : Str) (r : RuleL), vs = [.str (lineS m r), .str m] ∧ m ∈ moms ∧ GoodRule r ∧ ∀ H' p, Same H H' → RuleAt K H' p r → Q (.ref p) H'
set_option maxHeartbeats 2000000 in
theorem ok_read_rule (T : Txt w K mg) {fd : FuncData} (F : FunD K d_read_rule.name d_read_rule.qual d_read_rule.params d_read_rule.body d_read_rule.scope (d_read_rule.dvs K) (d_read_rule.kws K) (He.fAd K d_read_rule.at_) fd) : FnOk P w K mg base C8.CX0 3 (He.fAd K d_read_rule.at_) fd ["line", "moment"] (sp_read_rule K) := by
  have c_is_rule := c_is_rule (P := P) (w := w) (base := base) T
  refine F.ok sc_read_rule (fun vs H Q E h => ?_) (fun cdv A outer s H vs Q E hr h => ?_)
  · obtain ⟨m, r, rfl, _⟩ := h
    rfl
  · have hu := L2.hu_of hr
    obtain ⟨m, r, rfl, hm, gr, q⟩ := h
    refine ⟨_, (PSs.nox ((pss_cons (ps_set (i := 2) sc_read_rule.nd rfl (by first | exact Or.inl rfl | exact Or.inr rfl) (pe_split (pv 0) pe_str))
  (pss_cons (ps_set (i := 3) sc_read_rule.nd rfl (by first | exact Or.inl rfl | exact Or.inr rfl) (pe_callTy (My.tuple_ofK (K := K) rfl) (by rfl) T.tuple (by decide +kernel) (pa_cons (pe_slice (My.sl_listK (K := K) rfl) (pv 2) (po_some pe_int) po_none) pa_nil)))
  (pss_one (ps_ret (pe_ifExp (PW.pt (pw_and (pt_cmpR op_eq (pe_ix (My.ix_listK (K := K) rfl) (pv 2) pe_int (fun _ _ => rfl)) (pe_op op_add_str (pv 1) pe_str) (nomark _)) (pw_and1 (pt_val (C8.pe_c c_is_rule hr (by decide) rfl (pa_cons (pv 3) pa_nil)))))) (pv 3) pe_non))))))), ?_⟩
    have ml : m.length ≤ 6 := by
      have h : ∀ x ∈ moms, x.length ≤ 6 := by decide +kernel
      exact h m hm
    refine ⟨_, rfl, ⟨_, rfl⟩, _, " ", rfl, rfl, by decide +kernel, ?_, fun L hL => ?_⟩
    · have := lineS_len ml gr
      exact Nat.le_of_lt (lt_line (by omega))
    rw [words_split hm gr]
    have yL := same_new (o := .lst (((m ++ ":") :: r).map V.str)) hL
    refine ⟨_, rfl, 1, rfl, L, _, rfl, SqL.of upd_same, fun q1 hq1 => ?_⟩
    have ec : cutV (((m ++ ":") :: r).map V.str) (some (1 : Int)) none = r.map V.str := cut_from (c := 1)
    rw [ec]
    have y1 := same_new (o := .lst (r.map V.str)) hq1
    refine ⟨q1, _, rfl, .inl ⟨SqL.of upd_same, fun t ht => ?_⟩⟩
    have yt := same_new (o := .tup (r.map V.str)) ht
    have ss := (yL.trans y1).trans yt
    have hL3 := yt _ _ (y1 _ _ (show upd H L (.lst (((m ++ ":") :: r).map V.str)) L = some (.lst (((m ++ ":") :: r).map V.str)) from upd_same))
    have ht3 : RuleAt K (upd (upd (upd H L (.lst (((m ++ ":") :: r).map V.str))) q1 (.lst (r.map V.str))) t (.tup (r.map V.str))) t r := SqT.of upd_same
    refine ⟨_, rfl, L, _, 0, _, rfl, rfl, SqL.of hL3, atI_nat (j := 0) rfl, _, rfl, _, _, rfl, rfl, cat_ok 6 1 ml (by decide +kernel), rfl, _, rfl, ?_⟩
    rw [decide_eq_true (show V.str (m ++ ":") = V.str (m ++ ":") from rfl)]
    refine ⟨_, rfl, t, r, rfl, ht3, gr, fun H5 s5 => ?_⟩
    exact ⟨true, rfl, _, rfl, q _ t (ss.trans s5) (same_tup s5 ht3)⟩
theorem c_read_rule (T : Txt w K mg) : C8.Cal P w K mg base 3 "read_rule" (sp_read_rule K) [] := by
  obtain ⟨fd, F⟩ := T.f_read_rule
  exact ⟨_, fd, _, _, ok_read_rule T F, T.g_read_rule, F.kp, F.bindsN (fun _ _ _ _ _ _ us hl => match us, hl with | [_, _], _ => rfl), .nil⟩
def sp_read_book (K : PySem.W.Frag) : Sp := fun vs H Q _ => ∃ (d : Int) (rs : List RuleL), vs = [.str (bookS d rs)] ∧ GoodB rs ∧ 1 ≤ d ∧ d ≤ 30 ∧ ∀ H' b, H b = none → Same H H' → BookAt K H' b d rs → Q (.ref b) H'
set_option maxHeartbeats 2000000 in
theorem ok_read_book (T : Txt w K mg) {fd : FuncData} (F : FunD K d_read_book.name d_read_book.qual d_read_book.params d_read_book.body d_read_book.scope (d_read_book.dvs K) (d_read_book.kws K) (He.fAd K d_read_book.at_) fd) : FnOk P w K mg base C8.CX0 5 (He.fAd K d_read_book.at_) fd ["text"] (sp_read_book K) := by
  have c_Book_init := c_Book_init (P := P) (w := w) (base := base) T
  have c_read_rule := c_read_rule (P := P) (w := w) (base := base) T
  have c_read_days := c_read_days (P := P) (w := w) (base := base) T
  have c_lines_of := c_lines_of (P := P) (w := w) (base := base) T
  refine F.ok sc_read_book (fun vs H Q E h => ?_) (fun cdv A outer s H vs Q E hr h => ?_)
  · obtain ⟨d, rs, rfl, _⟩ := h
    rfl
  · have hu := L2.hu_of hr
    obtain ⟨d, rs, rfl, hg, h1, h2, q⟩ := h
    refine ⟨_, (PSs.nox ((pss_cons (ps_set (i := 1) sc_read_book.nd rfl (by first | exact Or.inl rfl | exact Or.inr rfl) (C8.pe_c c_lines_of hr (by decide) rfl (pa_cons (pv 0) pa_nil)))
  (pss_cons (ps_set (i := 2) sc_read_book.nd rfl (by first | exact Or.inl rfl | exact Or.inr rfl) (C8.pe_c c_read_days hr (by decide) rfl (pa_cons (pe_ix (My.ix_listK (K := K) rfl) (pv 1) pe_int (fun _ _ => rfl)) pa_nil)))
  (pss_cons (ps_if (pt_cmpR op_isN (pv 2) pe_non (nomark _))
  (pss_one ps_never)
  pss_nil)
  (pss_cons (ps_set (i := 3) sc_read_book.nd rfl (by first | exact Or.inl rfl | exact Or.inr rfl) (pe_lst pa_nil))
  (pss_cons (ps_for PassesOwn.never rfl (My.pi_enumT (K := K) rfl (by rfl) T.enumerate (pa_cons (pe_glob (v := .ref (He.ga K "MOMENTS")) rfl T.g_MOMENTS rfl) pa_nil) (pk_cons pe_int pk_nil)) (My.pg_tupK (K := K) (n := 2) rfl rfl (pgs_cons (pg_name (i := 4) sc_read_book.nd rfl (by first | exact Or.inl rfl | exact Or.inr rfl)) (pgs_cons (pg_name (i := 5) sc_read_book.nd rfl (by first | exact Or.inl rfl | exact Or.inr rfl)) pgs_nil)))
  (pss_cons (ps_set (i := 6) sc_read_book.nd rfl (by first | exact Or.inl rfl | exact Or.inr rfl) (pe_ifExp (pt_cmpR op_lt (pv 4) (pe_callB (My.len_seqK (K := K) rfl) (by rfl) T.len (by decide +kernel) (pa_cons (pv 1) pa_nil)) (nomark _)) (C8.pe_c c_read_rule hr (by decide) rfl (pa_cons (pe_ix (My.ix_listK (K := K) rfl) (pv 1) (pv 4) (fun _ _ => rfl)) (pa_cons (pv 5) pa_nil))) pe_non))
  (pss_cons (ps_if (pt_cmpR op_isN (pv 6) pe_non (nomark _))
  (pss_one ps_never)
  pss_nil)
  (pss_one (ps_expr (My.pe_bmK (K := K) rfl PySem.F.plainAttrs_list PySem.F.slot_list_append PySem.F.type_list_append mt_append (pv 3) (pa_cons (pv 6) pa_nil)))))))
  (pss_cons (ps_if (pt_cmpR op_gt (pe_callB (My.len_seqK (K := K) rfl) (by rfl) T.len (by decide +kernel) (pa_cons (pv 1) pa_nil)) (pe_op op_add pe_int (pe_callB (My.len_seqK (K := K) rfl) (by rfl) T.len (by decide +kernel) (pa_cons (pe_glob (v := .ref (He.ga K "MOMENTS")) rfl T.g_MOMENTS rfl) pa_nil))) (nomark _))
  (pss_one ps_never)
  pss_nil)
  (pss_one (ps_ret (My.pe_mkS2 c_Book_init hr (by decide) rfl (pa_cons (pv 2) (My.pa_starK (K := K) rfl (pv 3) pa_nil))))))))))))), ?_⟩
    refine ⟨_, rfl, _, rfl, Nat.le_of_lt (lt_line (Nat.le_trans (Nat.add_le_add_right (book_len hg h1 h2) 2) (by decide))), fun L hL => ?_⟩
    rw [book_split hg h1]
    have yL := same_new (o := .lst ((linesS d rs).map V.str)) hL
    have hL1 : upd H L (.lst ((linesS d rs).map V.str)) L = some (.lst ((linesS d rs).map V.str)) := upd_same
    generalize upd H L (.lst ((linesS d rs).map V.str)) = H1 at yL hL1
    refine ⟨_, rfl, L, _, 0, _, rfl, rfl, SqL.of hL1, atI_nat (j := 0) rfl, d, rfl, h1, h2, fun H2 s2 => ?_⟩
    refine ⟨_, rfl, rfl, _, rfl, ?_⟩
    rw [decide_eq_false (show ¬ V.int d = V.non from fun z => by cases z)]
    refine ⟨Nat.zero_le _, fun R hR => ?_⟩
    have yR := same_new (o := .lst []) hR
    have s12 := s2
    have hHR : H R = none := yL.free (s2.free hR)
    have nLR : L ≠ R := ne_of_none (s2 _ _ hL1) hR
    refine ⟨He.ga K "MOMENTS", moms.map V.str, 1, rfl, rfl, by decide, by decide, T.tup_MOMENTS _, ?_⟩
    refine for_it (walk_enumT (xs := moms.map V.str)) (fun i σ H' => ∃ o4 o5 o6, σ = [some (.str (bookS d rs)), some (.ref L), some (.int d), some (.ref R), o4, o5, o6] ∧ Same H H' ∧ H' L = some (.lst ((linesS d rs).map V.str)) ∧ ∃ as : List Addr, H' R = some (.lst (as.map V.ref)) ∧ Paired (RuleAt K H') as (rs.take i))
      ⟨_, _, _, rfl, (yL.trans s2).trans yR, yR _ _ (s2 _ _ hL1), [], upd_same, .nil⟩ (fun i σ H' _ _ => T.tup_MOMENTS _) ?_ ?_
    · rintro i x σ H3 H4 hi ⟨o4, o5, o6, rfl, s3, hL3, as, hR3, has⟩ ⟨T2, x1, y, rfl, hT, rfl, e1, hy⟩
      cases e1
      obtain ⟨m, hm, rfl⟩ := map_get hy
      have hi8 : i < 8 := hi
      have er := hg.get hi8
      have gr := hg.good _ (List.mem_of_getElem? er)
      have em : moms.getD i Str.empty = m := by rw [List.getD_eq_getElem?_getD, hm]; rfl
      have yT := same_new (o := .tup [.int (1 + (i : Int)), .str m]) hT
      refine ⟨T2, _, rfl, SqT.of upd_same, rfl, _, _, rfl, _, _, rfl, rfl, ?_⟩
      have hline : ((linesS d rs).map V.str)[i + 1]? = some (.str (lineS m (at_ rs i))) := by
        show ((linesN 8 rs).map V.str)[i]? = _
        unfold linesN
        rw [List.getElem?_map, List.getElem?_map, List.getElem?_range hi8, ← em]
        rfl
      have e9 : ((linesS d rs).map V.str).length = 9 := by
        rw [List.length_map]
        show (linesN 8 rs).length + 1 = 9
        rw [linesN_len]
      refine ⟨_, rfl, _, rfl, L, _, rfl, .inl (SqL.of (yT _ _ hL3)), _, _, rfl, rfl, _, rfl, ?_⟩
      rw [e9, decide_eq_true (show (1 : Int) + (i : Int) < ((9 : Nat) : Int) by omega)]
      have e1 : (1 : Int) + (i : Int) = ((i + 1 : Nat) : Int) := by omega
      refine ⟨_, rfl, _, rfl, L, _, _, _, rfl, rfl, SqL.of (yT _ _ hL3), by rw [e1]; exact atI_nat hline, _, rfl, m, at_ rs i, rfl, List.mem_of_getElem? hm, gr, fun H5 p s5 hp => ?_⟩
      refine ⟨_, rfl, rfl, _, rfl, ?_⟩
      rw [decide_eq_false (show ¬ V.ref p = V.non from fun z => by cases z)]
      have hR5 := s5 _ _ (yT _ _ hR3)
      refine ⟨_, rfl, .inl ⟨rfl, _, SqL.of hR5⟩, _, rfl, R, _, _, rfl, rfl, hR5, ?_, ?_⟩
      · rw [List.length_map, has.length, List.length_take]
        exact lt_line (by omega)
      have s35 := yT.trans s5
      refine ⟨_, _, _, rfl, same_upd (s3.trans s35) hHR, (upd_ne nLR).trans (s35 _ _ hL3), as ++ [p], by rw [upd_same, List.map_append]; rfl, ?_⟩
      rw [take_more er]
      exact paired_app (paired_map (fun _ _ _ x => tupU hR5 (same_tup s35 x)) has) (.cons (tupU hR5 hp) .nil)
    rintro σ H3 ⟨o4, o5, o6, rfl, s3, hL3, as, hR3, has⟩
    have has8 : Paired (RuleAt K H3) as rs := by
      have e : rs.take (moms.map V.str).length = rs := List.take_of_length_le (by rw [hg.len]; exact Nat.le_refl _)
      rw [e] at has
      exact has
    have e9 : ((linesS d rs).map V.str).length = 9 := by
      rw [List.length_map]
      show (linesN 8 rs).length + 1 = 9
      rw [linesN_len]
    refine ⟨_, rfl, L, _, rfl, .inl (SqL.of hL3), He.ga K "MOMENTS", _, rfl, .inr (T.tup_MOMENTS _), _, _, rfl, rfl, _, _, rfl, rfl, _, rfl, ?_⟩
    rw [e9]
    refine ⟨_, rfl, _, rfl, R, _, rfl, .inr (SqL.of hR3), ?_⟩
    intro x dx nx ndx nex
    have z1 : Same H3 (upd (upd H3 dx (.own x)) x (.ins (He.ga K "Book") dx [])) := (same_new ndx).trans (same_upd (Same.refl _) (by rw [upd_ne nex.symm]; exact nx))
    refine ⟨x, dx, d, as, rs, by rw [List.append_nil, List.append_nil], upd_same, h1, h2, paired_map (fun a r _ hr => same_tup z1 hr) has8, hg.len, hg.good, fun H' t2 bt hx ht2 => ⟨rfl, ?_⟩⟩
    have z3 : Same H3 H' := fun c o e => bt c o (by simpa using ne_of_none e nx) (z1 _ _ e)
    exact q _ x (s3.free nx) (s3.trans z3) ⟨dx, t2, _, hx, SqT.of ht2, paired_map (fun a r _ hr => same_tup z3 hr) has8, hg.len⟩
theorem c_read_book (T : Txt w K mg) : C8.Cal P w K mg base 5 "read_book" (sp_read_book K) [] := by
  obtain ⟨fd, F⟩ := T.f_read_book
  exact ⟨_, fd, _, _, ok_read_book T F, T.g_read_book, F.kp, F.bindsN (fun _ _ _ _ _ _ us hl => match us, hl with | [_], _ => rfl), .nil⟩
end
end K67

namespace K67
open PySem PySem.Spec PyProof.Rows L2 My StX
/-! ### the law's own box: a list [is open, inside, taken for, valid, last] -/
def LBx (as : List Addr) (H : Hp) (bx : Addr) (S : BoxS) : Prop := ∃ (l1 l3 : Addr) (ys : List Int), H bx = some (.lst [.bl S.ajar, .ref l1, .str S.tf, .ref l3, .int (S.last.getD 0), .int (S.age.getD 0)]) ∧ H l1 = some (.lst (S.inside.map V.int)) ∧ H l3 = some (.lst (ys.map V.int)) ∧ ys.Perm S.valid ∧ ys.Pairwise (· ≤ ·) ∧
  l1 ≠ bx ∧ l3 ≠ bx ∧ S.valid.Nodup ∧ (∀ p, S.last = some p → 1 ≤ p) ∧ l1 ∉ as ∧ l3 ∉ as
theorem LBx.same {as : List Addr} {H H' : Hp} {bx : Addr} {S : BoxS} (s : Same H H') (h : LBx as H bx S) : LBx as H' bx S := by
  obtain ⟨l1, l3, ys, h1, h2, h3, r⟩ := h
  exact ⟨l1, l3, ys, s _ _ h1, s _ _ h2, s _ _ h3, r⟩
theorem LBx.less {as : List Addr} {H : Hp} {bx L : Addr} {S : BoxS} (h : LBx (L :: as) H bx S) : LBx as H bx S := by
  obtain ⟨l1, l3, ys, h1, h2, h3, h4, h5, h6, h7, h8, h9, h10, h11⟩ := h
  exact ⟨l1, l3, ys, h1, h2, h3, h4, h5, h6, h7, h8, h9, fun z => h10 (List.mem_cons_of_mem _ z), fun z => h11 (List.mem_cons_of_mem _ z)⟩
theorem LBx.new {as : List Addr} {H : Hp} {bx L : Addr} {S : BoxS} (h : LBx as H bx S) (hL : H L = none) : LBx (L :: as) H bx S := by
  obtain ⟨l1, l3, ys, h1, h2, h3, h4, h5, h6, h7, h8, h9, h10, h11⟩ := h
  refine ⟨l1, l3, ys, h1, h2, h3, h4, h5, h6, h7, h8, h9, fun z => ?_, fun z => ?_⟩
  · rcases List.mem_cons.mp z with z | z
    · exact ne_of_none h2 hL z
    · exact h10 z
  · rcases List.mem_cons.mp z with z | z
    · exact ne_of_none h3 hL z
    · exact h11 z
theorem act_T {S : BoxS} {U : ToldS} {a : Str} : (act (S, U) a).1 = (act (S, T0) a).1 ∧ (act (S, U) a).2 = { U with letters := U.letters ++ (act (S, T0) a).2.letters } := by
  have e0 : ∀ V : ToldS, V = { V with letters := V.letters ++ ([] : List Int) } := fun V => by
    cases V
    simp
  unfold act
  split
  · unfold sendCode
    show (if S.tf = "full" then _ else _ : BoxS × ToldS).1 = (if S.tf = "full" then _ else _ : BoxS × ToldS).1 ∧ _
    split
    · cases hl : S.last with
      | none => simp only [hl]; exact ⟨trivial, e0 U⟩
      | some p => simp only [hl]; exact ⟨trivial, rfl⟩
    · exact ⟨rfl, e0 U⟩
  · split
    · exact ⟨rfl, e0 U⟩
    · split
      · exact ⟨rfl, e0 U⟩
      · split
        · exact ⟨rfl, e0 U⟩
        · exact ⟨rfl, e0 U⟩
theorem fold_T : ∀ (r : RuleL) (S : BoxS) (U : ToldS), (r.foldl act (S, U)).1 = (r.foldl act (S, T0)).1 ∧ (r.foldl act (S, U)).2 = { U with letters := U.letters ++ (r.foldl act (S, T0)).2.letters }
  | [], S, U => ⟨rfl, by cases U; simp [T0]⟩
  | a :: r, S, U => by
    obtain ⟨h1, h2⟩ := act_T (S := S) (U := U) (a := a)
    rcases hA : act (S, U) a with ⟨S', U'⟩
    rcases hB : act (S, T0) a with ⟨S0, U0⟩
    rw [hA, hB] at h1 h2
    simp only at h1 h2
    subst h1
    have i1 := fold_T r S' U'
    have i0 := fold_T r S' U0
    rw [List.foldl_cons, List.foldl_cons, hA, hB]
    refine ⟨i1.1.trans i0.1.symm, ?_⟩
    rw [i1.2, i0.2, h2]
    simp only [List.append_assoc]
theorem fold_valid : ∀ (r : RuleL) (x : BoxS × ToldS), x.1.valid.Nodup → (r.foldl act x).1.valid.Nodup
  | [], x, h => h
  | a :: r, x, h => by
    rw [List.foldl_cons]
    refine fold_valid r _ ?_
    unfold act
    split
    · unfold sendCode
      split
      · split
        · rename_i p _
          show (ins p x.1.valid).Nodup
          unfold ins
          split
          · exact h
          · rename_i hn
            exact List.nodup_append.mpr ⟨h, by simp, fun y hy z hz e => hn (by rw [List.mem_singleton.mp hz] at e; rw [← e]; exact hy)⟩
        · exact h
      · exact h
    · split
      · exact List.nodup_nil
      · split
        · exact h
        · split
          · exact h
          · exact h
theorem act_keeps (x : BoxS × ToldS) (a : Str) : (act x a).1.inside = x.1.inside ∧ (act x a).1.last = x.1.last := by
  unfold act
  split
  · unfold sendCode
    split
    · split
      · exact ⟨rfl, rfl⟩
      · exact ⟨rfl, rfl⟩
    · exact ⟨rfl, rfl⟩
  · split
    · exact ⟨rfl, rfl⟩
    · split
      · exact ⟨rfl, rfl⟩
      · split
        · exact ⟨rfl, rfl⟩
        · exact ⟨rfl, rfl⟩
theorem ins_perm {p : Int} {ys vs : List Int} (h : ys.Perm vs) (hn : vs.Nodup) : ((ys.filter fun q => decide (q ≠ p)) ++ [p]).Perm (ins p vs) := by
  have h1 : (ys.filter fun q => decide (q ≠ p)).Perm (vs.filter fun q => decide (q ≠ p)) := h.filter _
  refine (h1.append_right [p]).trans ?_
  unfold ins
  split
  · rename_i hp
    refine List.perm_append_comm.trans ?_
    have : (vs.filter fun q => decide (q ≠ p)) = vs.erase p := by
      rw [hn.erase_eq_filter]
      congr 1
      funext q
      by_cases e : q = p
      · simp [e]
      · simp [e]
    rw [this]
    exact (List.perm_cons_erase hp).symm
  · rename_i hp
    have e2 : vs.filter (fun q => decide (q ≠ p)) = vs := List.filter_eq_self.mpr fun q hq => decide_eq_true (fun e : q = p => hp (e ▸ hq))
    rw [e2]
section
variable {P : Program} {w : World} {K : PySem.W.Frag} {mg : Str → Option Value} {base : Heap}
theorem tupB {K : PySem.W.Frag} {H H' : Hp} {bx L t : Addr} {u v xs : List V} (b : But [bx, L] H H') (h1 : H bx = some (.lst u)) (h2 : H L = some (.lst v)) (h : SqT K H t xs) : SqT K H' t xs := by
  have go : ∀ o, H t = some o → (∀ l, o ≠ .lst l) → H' t = some o := fun o e no => b t o (by
    simp only [List.mem_cons, List.not_mem_nil, or_false, not_or]
    exact ⟨ne_of e h1 (fun z => no _ z), ne_of e h2 (fun z => no _ z)⟩) e
  rcases h with (h | ⟨o, h⟩) | h
  · exact .inl (.inl (go _ h (fun _ z => by cases z)))
  · exact .inl (.inr ⟨o, go _ h (fun _ z => by cases z)⟩)
  · exact .inr h
theorem eqv_nil (l : List Int) : PyData.eqv (.list (l.map PyData.int)) (.list []) = l.isEmpty := by
  cases l with
  | nil => rfl
  | cons x r => rfl
end
end K67

namespace K67
open PySem PySem.Spec PyProof.Rows L2 My StX
def leaveF (rb : List RuleL) (s : Bool) (i1 i2 : Nat) (S : BoxS) : BoxS × ToldS := if S.ajar = true then (at_ rb (if s = true then i1 else i2)).foldl act ({ S with ajar := !s }, T0) else (S, T0)
theorem carry_T (r : RuleL) (m : Str) (S : BoxS) (U : ToldS) : (carry r m (S, U)).1 = (r.foldl act (S, T0)).1 ∧ (carry r m (S, U)).2 = { U with letters := U.letters ++ (r.foldl act (S, T0)).2.letters, moments := U.moments ++ [m] } := by
  unfold carry
  exact fold_T r S { U with moments := U.moments ++ [m] }
theorem go_T (rb : List RuleL) (s : Bool) (m1 m2 : Str) (i1 i2 : Nat) (S : BoxS) (U : ToldS) : (goAway s m1 m2 (at_ rb i1) (at_ rb i2) (S, U)).1 = (leaveF rb s i1 i2 S).1 ∧ (goAway s m1 m2 (at_ rb i1) (at_ rb i2) (S, U)).2.letters = U.letters ++ (leaveF rb s i1 i2 S).2.letters ∧
    (goAway s m1 m2 (at_ rb i1) (at_ rb i2) (S, U)).2.opened = U.opened ∧ (goAway s m1 m2 (at_ rb i1) (at_ rb i2) (S, U)).2.got = U.got := by
  unfold goAway leaveF
  obtain ⟨aj, ii, tf, va, ag, la, sn, sv⟩ := S
  cases aj with
  | false =>
    rw [if_neg (show ¬ ((false : Bool) = true) from Bool.false_ne_true), if_neg (show ¬ ((false : Bool) = true) from Bool.false_ne_true)]
    exact ⟨rfl, (List.append_nil _).symm, rfl, rfl⟩
  | true =>
    rw [if_pos (show (true : Bool) = true from rfl), if_pos (show (true : Bool) = true from rfl)]
    cases s with
    | true =>
      have h := carry_T (at_ rb i1) m1 ⟨false, ii, tf, va, ag, la, sn, sv⟩ U
      refine ⟨h.1, ?_, ?_, ?_⟩
      · show (carry (at_ rb i1) m1 (⟨false, ii, tf, va, ag, la, sn, sv⟩, U)).2.letters = _
        rw [h.2]; rfl
      · show (carry (at_ rb i1) m1 (⟨false, ii, tf, va, ag, la, sn, sv⟩, U)).2.opened = _
        rw [h.2]
      · show (carry (at_ rb i1) m1 (⟨false, ii, tf, va, ag, la, sn, sv⟩, U)).2.got = _
        rw [h.2]
    | false =>
      have h := carry_T (at_ rb i2) m2 ⟨true, ii, tf, va, ag, la, sn, sv⟩ U
      refine ⟨h.1, ?_, ?_, ?_⟩
      · show (carry (at_ rb i2) m2 (⟨true, ii, tf, va, ag, la, sn, sv⟩, U)).2.letters = _
        rw [h.2]; rfl
      · show (carry (at_ rb i2) m2 (⟨true, ii, tf, va, ag, la, sn, sv⟩, U)).2.opened = _
        rw [h.2]
      · show (carry (at_ rb i2) m2 (⟨true, ii, tf, va, ag, la, sn, sv⟩, U)).2.got = _
        rw [h.2]
theorem act_age (x : BoxS × ToldS) (a : Str) : (act x a).1.age = x.1.age := by
  unfold act
  split
  · unfold sendCode
    split
    · split <;> rfl
    · rfl
  · split
    · rfl
    · split
      · rfl
      · split <;> rfl
theorem fold_keeps : ∀ (r : RuleL) (x : BoxS × ToldS), (r.foldl act x).1.inside = x.1.inside ∧ (r.foldl act x).1.last = x.1.last ∧ (r.foldl act x).1.age = x.1.age
  | [], x => ⟨rfl, rfl, rfl⟩
  | a :: r, x => by
    rw [List.foldl_cons]
    exact ⟨(fold_keeps r _).1.trans (act_keeps x a).1, (fold_keeps r _).2.1.trans (act_keeps x a).2, (fold_keeps r _).2.2.trans (act_age x a)⟩
theorem addW_T (c : Bool) (wd : Str) (x : BoxS × ToldS) : (addW c wd x).1 = x.1 ∧ (addW c wd x).2.letters = x.2.letters ∧ (addW c wd x).2.got = x.2.got ∧ (addW c wd x).2.opened = x.2.opened := by
  unfold addW
  split
  · exact ⟨rfl, rfl, rfl, rfl⟩
  · exact ⟨rfl, rfl, rfl, rfl⟩
theorem code_no {rb : List RuleL} {p : Int} {tk sh : Bool} {S : BoxS} (hv : p ∈ S.valid) (h : ¬ (tk = true ∧ ((at_ rb 3).foldl act (({ S with ajar := true } : BoxS), T0)).1.ajar = true)) :
    (codeF rb p tk sh S).1 = (leaveF rb sh 4 5 ((at_ rb 3).foldl act (({ S with ajar := true } : BoxS), T0)).1).1 ∧ (codeF rb p tk sh S).2.letters = ((at_ rb 3).foldl act (({ S with ajar := true } : BoxS), T0)).2.letters ++ (leaveF rb sh 4 5 ((at_ rb 3).foldl act (({ S with ajar := true } : BoxS), T0)).1).2.letters ∧
    (codeF rb p tk sh S).2.got = [] ∧ (codeF rb p tk sh S).2.opened = true := by
  have c := carry_T (at_ rb 3) "opened" { S with ajar := true } { T0 with opened := true }
  unfold codeF
  rw [if_pos hv]
  generalize carry (at_ rb 3) "opened" (({ S with ajar := true } : BoxS), ({ T0 with opened := true } : ToldS)) = x0 at c
  have et : takeIf p tk x0 = x0 := by
    unfold takeIf
    rw [c.1, if_neg h]
  rw [et]
  obtain ⟨a1, a2, a3, a4⟩ := addW_T (missF p S) "empty" x0
  obtain ⟨g1, g2, g3, g4⟩ := go_T rb sh "taken" "gone" 4 5 (addW (missF p S) "empty" x0).1 (addW (missF p S) "empty" x0).2
  refine ⟨g1.trans (by rw [a1, c.1]), g2.trans (by rw [a1, a2, c.1, c.2]; rfl), g4.trans (by rw [a3, c.2]; rfl), g3.trans (by rw [a4, c.2])⟩
theorem code_tk {rb : List RuleL} {p : Int} {sh : Bool} {S : BoxS} (hv : p ∈ S.valid) (h : ((at_ rb 3).foldl act (({ S with ajar := true } : BoxS), T0)).1.ajar = true) : ∃ sv : List Int,
    (codeF rb p true sh S).1 = (leaveF rb sh 4 5 { ((at_ rb 3).foldl act (({ S with ajar := true } : BoxS), T0)).1 with inside := [], served := sv }).1 ∧ (codeF rb p true sh S).2.letters = ((at_ rb 3).foldl act (({ S with ajar := true } : BoxS), T0)).2.letters ++ (leaveF rb sh 4 5 { ((at_ rb 3).foldl act (({ S with ajar := true } : BoxS), T0)).1 with inside := [], served := sv }).2.letters ∧
    (codeF rb p true sh S).2.got = ((at_ rb 3).foldl act (({ S with ajar := true } : BoxS), T0)).1.inside ∧ (codeF rb p true sh S).2.opened = true ∧ sv.length ≤ ((at_ rb 3).foldl act (({ S with ajar := true } : BoxS), T0)).1.served.length + 1 := by
  have c := carry_T (at_ rb 3) "opened" { S with ajar := true } { T0 with opened := true }
  unfold codeF
  rw [if_pos hv]
  generalize carry (at_ rb 3) "opened" (({ S with ajar := true } : BoxS), ({ T0 with opened := true } : ToldS)) = x0 at c
  have et : takeIf p true x0 = letTake (some p) x0 := by
    unfold takeIf
    rw [if_pos ⟨rfl, by rw [c.1]; exact h⟩]
  rw [et]
  obtain ⟨a1, a2, a3, a4⟩ := addW_T (missF p S) "empty" (letTake (some p) x0)
  obtain ⟨g1, g2, g3, g4⟩ := go_T rb sh "taken" "gone" 4 5 (addW (missF p S) "empty" (letTake (some p) x0)).1 (addW (missF p S) "empty" (letTake (some p) x0)).2
  have l1 : (letTake (some p) x0).1 = { ((at_ rb 3).foldl act (({ S with ajar := true } : BoxS), T0)).1 with inside := [], served := if p ∈ x0.1.inside then ins p x0.1.served else x0.1.served } := by
    show ({ x0.1 with inside := [], served := if p ∈ x0.1.inside then ins p x0.1.served else x0.1.served } : BoxS) = _
    rw [c.1]
  have l2 : (letTake (some p) x0).2.letters = ((at_ rb 3).foldl act (({ S with ajar := true } : BoxS), T0)).2.letters := by
    show x0.2.letters = _
    rw [c.2]; rfl
  have l3 : (letTake (some p) x0).2.got = ((at_ rb 3).foldl act (({ S with ajar := true } : BoxS), T0)).1.inside := by
    show x0.1.inside = _
    rw [c.1]
  have l4 : (letTake (some p) x0).2.opened = true := by
    show x0.2.opened = _
    rw [c.2]
  refine ⟨_, g1.trans (by rw [a1, l1]), g2.trans (by rw [a1, a2, l1, l2]), g4.trans (by rw [a3, l3]), g3.trans (by rw [a4, l4]), ?_⟩
  rw [c.1]
  split
  · unfold ins
    split
    · omega
    · rw [List.length_append]; exact Nat.le_refl _
  · omega
theorem bring_no {rb : List RuleL} {p : Int} {l sh : Bool} {S : BoxS} (hf : S.tf = "free") (h : ¬ (l = true ∧ ((at_ rb 0).foldl act (({ S with ajar := true, age := some 0, last := some p } : BoxS), T0)).1.ajar = true)) :
    (bringF rb p l sh S).1 = (leaveF rb sh 1 2 ((at_ rb 0).foldl act (({ S with ajar := true, age := some 0, last := some p } : BoxS), T0)).1).1 ∧ (bringF rb p l sh S).2.letters = ((at_ rb 0).foldl act (({ S with ajar := true, age := some 0, last := some p } : BoxS), T0)).2.letters ++ (leaveF rb sh 1 2 ((at_ rb 0).foldl act (({ S with ajar := true, age := some 0, last := some p } : BoxS), T0)).1).2.letters ∧
    (bringF rb p l sh S).2.got = [] ∧ (bringF rb p l sh S).2.opened = true := by
  have c := carry_T (at_ rb 0) "given" { S with ajar := true, age := some 0, last := some p } { T0 with opened := true }
  unfold bringF
  rw [if_pos hf]
  generalize carry (at_ rb 0) "given" (({ S with ajar := true, age := some 0, last := some p } : BoxS), ({ T0 with opened := true } : ToldS)) = x0 at c
  have et : layIn p l x0 = x0 := by
    unfold layIn
    rw [c.1, if_neg h]
  rw [et]
  obtain ⟨g1, g2, g3, g4⟩ := go_T rb sh "laid" "left" 1 2 x0.1 x0.2
  refine ⟨g1.trans (by rw [c.1]), g2.trans (by rw [c.1, c.2]; rfl), g4.trans (by rw [c.2]; rfl), g3.trans (by rw [c.2])⟩
theorem bring_lay {rb : List RuleL} {p : Int} {sh : Bool} {S : BoxS} (hf : S.tf = "free") (h : ((at_ rb 0).foldl act (({ S with ajar := true, age := some 0, last := some p } : BoxS), T0)).1.ajar = true) :
    (bringF rb p true sh S).1 = (leaveF rb sh 1 2 { ((at_ rb 0).foldl act (({ S with ajar := true, age := some 0, last := some p } : BoxS), T0)).1 with inside := ((at_ rb 0).foldl act (({ S with ajar := true, age := some 0, last := some p } : BoxS), T0)).1.inside ++ [p] }).1 ∧
    (bringF rb p true sh S).2.letters = ((at_ rb 0).foldl act (({ S with ajar := true, age := some 0, last := some p } : BoxS), T0)).2.letters ++ (leaveF rb sh 1 2 { ((at_ rb 0).foldl act (({ S with ajar := true, age := some 0, last := some p } : BoxS), T0)).1 with inside := ((at_ rb 0).foldl act (({ S with ajar := true, age := some 0, last := some p } : BoxS), T0)).1.inside ++ [p] }).2.letters ∧
    (bringF rb p true sh S).2.got = [] ∧ (bringF rb p true sh S).2.opened = true := by
  have c := carry_T (at_ rb 0) "given" { S with ajar := true, age := some 0, last := some p } { T0 with opened := true }
  unfold bringF
  rw [if_pos hf]
  generalize carry (at_ rb 0) "given" (({ S with ajar := true, age := some 0, last := some p } : BoxS), ({ T0 with opened := true } : ToldS)) = x0 at c
  obtain ⟨y1, y2⟩ := x0
  simp only at c
  have et : layIn p true (y1, y2) = ({ y1 with inside := y1.inside ++ [p] }, { y2 with wrongs := if y1.inside.isEmpty = true then y2.wrongs else y2.wrongs ++ [("two" : Str)] }) := by
    unfold layIn
    rw [if_pos ⟨rfl, by show y1.ajar = true; rw [c.1]; exact h⟩]
  rw [et]
  obtain ⟨g1, g2, g3, g4⟩ := go_T rb sh "laid" "left" 1 2 { y1 with inside := y1.inside ++ [p] } { y2 with wrongs := if y1.inside.isEmpty = true then y2.wrongs else y2.wrongs ++ [("two" : Str)] }
  have q2 : y2.letters = ((at_ rb 0).foldl act (({ S with ajar := true, age := some 0, last := some p } : BoxS), T0)).2.letters := by rw [c.2]; rfl
  have q3 : y2.got = [] := by rw [c.2]; rfl
  have q4 : y2.opened = true := by rw [c.2]
  refine ⟨g1.trans (by rw [c.1]), g2.trans (by show y2.letters ++ _ = _; rw [q2, c.1]), g4.trans q3, g3.trans q4⟩
section
variable {K : PySem.W.Frag} {σ : L2.St} {H : Hp} {t : Addr} {hd wd : Str} {rest : List V}
theorem wd_eq (h3 : σ[3]? = some (some (V.ref t))) (ht : SqT K H t (V.str hd :: rest)) {Q' : Bool → Hp → Prop} (q : Q' (decide (hd = wd)) H) : tTest (tOp rEq (tOp (rIxT K) (tVar 3) (tC (V.int 0))) (tC (V.str wd))) σ H Q' := by
  have e : decide (V.str hd = V.str wd) = decide (hd = wd) := by
    by_cases c : hd = wd
    · rw [decide_eq_true c, decide_eq_true (by rw [c])]
    · rw [decide_eq_false c, decide_eq_false fun z => c (V.str.inj z)]
  exact ⟨_, h3, t, _, ((0 : Nat) : Int), _, rfl, rfl, ht, atI_nat (show (V.str hd :: rest)[0]? = some (V.str hd) from rfl), rfl, _, rfl, by rw [e]; exact q⟩
theorem wd_no (h3 : σ[3]? = some (some (V.ref t))) (ht : SqT K H t (V.str hd :: rest)) (ne : hd ≠ wd) {tt : TT} {Q' : Bool → Hp → Prop} (q : Q' false H) : tAnd (tTest (tOp rEq (tOp (rIxT K) (tVar 3) (tC (V.int 0))) (tC (V.str wd)))) tt σ H Q' := by
  refine wd_eq h3 ht ?_
  rw [decide_eq_false ne]
  exact q
theorem wd_yes (h3 : σ[3]? = some (some (V.ref t))) (ht : SqT K H t (V.str hd :: rest)) (e : hd = wd) {tt : TT} {Q' : Bool → Hp → Prop} (q : tt σ H Q') : tAnd (tTest (tOp rEq (tOp (rIxT K) (tVar 3) (tC (V.int 0))) (tC (V.str wd)))) tt σ H Q' := by
  refine wd_eq h3 ht ?_
  rw [decide_eq_true e]
  exact q
end
end K67

namespace K67
open PySem PySem.Spec PyProof.Rows L2 My
/-! ### alike: two values that lay the same data -/
def Sized : Nat → PyData → Prop
  | 0, _ => False
  | n + 1, .list ds => ds.length ≤ 100000 ∧ ∀ e ∈ ds, Sized n e
  | n + 1, .tuple ds => ds.length ≤ 100000 ∧ ∀ e ∈ ds, Sized n e
  | _ + 1, .dict _ => False
  | _ + 1, _ => True
theorem dpall_len {K : PySem.W.Frag} {H : Hp} : ∀ {xs : List V} {ds : List PyData}, DpAll K H xs ds → xs.length = ds.length
  | _, _, .nil => rfl
  | _, _, .cons _ t => congrArg (· + 1) (dpall_len t)
theorem dpall_at {K : PySem.W.Frag} {H : Hp} : ∀ {xs : List V} {ds : List PyData} {i : Nat} {d : PyData}, DpAll K H xs ds → ds[i]? = some d → ∃ v, xs[i]? = some v ∧ Dp K H v d
  | _, _, 0, _, .cons h _, e => ⟨_, rfl, by cases e; exact h⟩
  | _, _, i + 1, _, .cons _ t, e => dpall_at (i := i) t e
mutual
theorem dp_same {K : PySem.W.Frag} {H H' : Hp} (s : Same H H') : ∀ {v : V} {d : PyData}, Dp K H v d → Dp K H' v d
  | _, _, .non => .non
  | _, _, .bl b => .bl b
  | _, _, .int i => .int i
  | _, _, .str x => .str x
  | _, _, .lst h t => .lst (s.seq h) (dpall_same s t)
  | _, _, .tup h t => .tup (same_tup s h) (dpall_same s t)
theorem dpall_same {K : PySem.W.Frag} {H H' : Hp} (s : Same H H') : ∀ {vs : List V} {ds : List PyData}, DpAll K H vs ds → DpAll K H' vs ds
  | _, _, .nil => .nil
  | _, _, .cons h t => .cons (dp_same s h) (dpall_same s t)
end
section
variable {P : Program} {w : World} {K : PySem.W.Frag} {mg : Str → Option Value} {base : Heap}
def spr_law_alike (K : PySem.W.Frag) (n : Nat) : Sp := fun vs H Q _ => ∃ (x y : V) (d : PyData), vs = [x, y] ∧ Dp K H x d ∧ Dp K H y d ∧ Sized n d ∧ ∀ H', Same H H' → Q (.bl true) H'
theorem no_law_alike (K : PySem.W.Frag) {vs : List V} {H : Hp} {Q : VK} {E : XK} : ¬ spr_law_alike K 0 vs H Q E := fun ⟨_, _, d, _, _, _, h, _⟩ => by
  cases d <;> exact h
def sp_law_alike (K : PySem.W.Frag) : Sp := spr_law_alike K 5
end
end K67

namespace K67
open PySem PySem.Spec PyProof.Rows L2 My
/-! ### boxes of a wall -/
structure Fp where
  b : Addr
  li : Addr
  dv : Addr
  ds : Addr
  dr : Addr
def Fp.all (f : Fp) : List Addr := [f.b, f.li, f.dv, f.ds, f.dr]
/-- a box stands -/
structure BxF (K : PySem.W.Frag) (H : Hp) (f : Fp) (S : BoxS) : Prop where
  nd : f.all.Nodup
  hb : ∃ dx, H f.b = some (.ins (He.ga K "Box") dx (bxf S f.li f.dv f.ds f.dr))
  hli : H f.li = some (.lst (S.inside.map V.int))
  hdv : H f.dv = some (.dK (kvT S.valid))
  hds : H f.ds = some (.dK (kvT S.sent))
  hdr : H f.dr = some (.dK (kvT S.served))
theorem BxF.bx {K : PySem.W.Frag} {H : Hp} {f : Fp} {S : BoxS} (h : BxF K H f S) : Bx K (hideF f.all H) H f.b S := by
  obtain ⟨dx, hb⟩ := h.hb
  exact ⟨dx, f.li, f.dv, f.ds, f.dr, bxa_hide h.nd hb h.hli h.hdv h.hds h.hdr⟩
theorem BxF.but {K : PySem.W.Frag} {as : List Addr} {H H' : Hp} {f : Fp} {S : BoxS} (s : But as H H') (n : ∀ a ∈ f.all, a ∉ as) (h : BxF K H f S) : BxF K H' f S := by
  obtain ⟨dx, hb⟩ := h.hb
  exact ⟨h.nd, ⟨dx, s _ _ (n _ (by simp [Fp.all])) hb⟩, s _ _ (n _ (by simp [Fp.all])) h.hli, s _ _ (n _ (by simp [Fp.all])) h.hdv, s _ _ (n _ (by simp [Fp.all])) h.hds, s _ _ (n _ (by simp [Fp.all])) h.hdr⟩
theorem BxF.same {K : PySem.W.Frag} {H H' : Hp} {f : Fp} {S : BoxS} (s : Same H H') (h : BxF K H f S) : BxF K H' f S := h.but (But.of (as := []) s) (fun _ _ z => by cases z)
theorem BxF.live {K : PySem.W.Frag} {H : Hp} {f : Fp} {S : BoxS} (h : BxF K H f S) : ∀ a ∈ f.all, ∃ o, H a = some o := by
  obtain ⟨dx, hb⟩ := h.hb
  intro a ha
  simp only [Fp.all, List.mem_cons, List.not_mem_nil, or_false] at ha
  rcases ha with rfl | rfl | rfl | rfl | rfl
  · exact ⟨_, hb⟩
  · exact ⟨_, h.hli⟩
  · exact ⟨_, h.hdv⟩
  · exact ⟨_, h.hds⟩
  · exact ⟨_, h.hdr⟩
/-- what is told of a deed -/
def TdF (K : PySem.W.Frag) (H : Hp) (t ll lg : Addr) (U : ToldS) : Prop := ∃ (dt : Addr) (yb : Bool) (lw lm : Addr), H t = some (.ins (He.ga K "Told") dt (tdf U yb ll lg lw lm)) ∧ H ll = some (.lst (U.letters.map V.int)) ∧ H lg = some (.lst (U.got.map V.int))
theorem BTx.back {K : PySem.W.Frag} {H0 H : Hp} {b t : Addr} {x : BoxS × ToldS} (h : BTx K H0 H b t x) : ∃ (f : Fp) (ll lg : Addr), f.b = b ∧ BxF K H f x.1 ∧ (∀ a ∈ f.all, H0 a = none) ∧ TdF K H t ll lg x.2 ∧ H0 t = none ∧ H0 ll = none ∧ H0 lg = none ∧ ll ≠ lg ∧ (∀ a ∈ f.all, a ≠ t ∧ a ≠ ll ∧ a ≠ lg) := by
  obtain ⟨dx, li, dv, ds, dr, dt, yb, ll, lg, lw, lm, h⟩ := h
  have nd := h.nd
  have split := List.nodup_append.mp (show ([b, li, dv, ds, dr] ++ [t, ll, lg, lw, lm]).Nodup from nd)
  refine ⟨⟨b, li, dv, ds, dr⟩, ll, lg, rfl, ⟨split.1, ⟨dx, h.hb⟩, h.hli, h.hdv, h.hds, h.hdr⟩, fun a ha => h.new a ?_, ⟨dt, yb, lw, lm, h.ht, h.hll, h.hlg⟩, h.new t (by simp), h.new ll (by simp), h.new lg (by simp), nd_ne nd (i := 6) (j := 7) rfl rfl (by decide), fun a ha => ⟨?_, ?_, ?_⟩⟩
  · exact List.mem_append_left [t, ll, lg, lw, lm] ha
  · exact split.2.2 a ha t (by simp)
  · exact split.2.2 a ha ll (by simp)
  · exact split.2.2 a ha lg (by simp)
section
variable {P : Program} {w : World} {K : PySem.W.Frag} {mg : Str → Option Value} {base : Heap}
def sp_Box_copied (K : PySem.W.Frag) : Sp := fun vs H Q _ => ∃ (f : Fp) (S : BoxS), vs = [.ref f.b] ∧ BxF K H f S ∧ ∀ H' (g : Fp), Same H H' → BxF K H' g S → (∀ a ∈ g.all, H a = none) → Q (.ref g.b) H'
set_option maxHeartbeats 2000000 in
theorem ok_Box_copied (T : Txt w K mg) {fd : FuncData} (F : FunD K d_Box_copied.name d_Box_copied.qual d_Box_copied.params d_Box_copied.body d_Box_copied.scope (d_Box_copied.dvs K) (d_Box_copied.kws K) (He.fAd K d_Box_copied.at_) fd) : FnOk P w K mg base C8.CX0 3 (He.fAd K d_Box_copied.at_) fd ["self"] (sp_Box_copied K) := by
  have c_Box_init := c_Box_init (P := P) (w := w) (base := base) T
  refine F.ok sc_Box_copied (fun vs H Q E h => ?_) (fun cdv A outer s H vs Q E hr h => ?_)
  · obtain ⟨f, S, rfl, _⟩ := h
    rfl
  · have hu := L2.hu_of hr
    obtain ⟨f, S, rfl, hf, q⟩ := h
    obtain ⟨dx, hb⟩ := hf.hb
    refine ⟨_, (PSs.nox ((pss_cons (ps_set (i := 1) sc_Box_copied.nd rfl (by first | exact Or.inl rfl | exact Or.inr rfl) (My.pe_mk0 c_Box_init hr (by decide) rfl))
  (pss_cons (ps_fld (pv 1) (My.pe_fldK (K := K) rfl (pv 0) rfl) rfl)
  (pss_cons (ps_fld (pv 1) (pe_callTy (My.list_ofK (K := K) rfl) (by rfl) T.list (by decide +kernel) (pa_cons (My.pe_fldK (K := K) rfl (pv 0) rfl) pa_nil)) rfl)
  (pss_cons (ps_fld (pv 1) (My.pe_fldK (K := K) rfl (pv 0) rfl) rfl)
  (pss_cons (ps_fld (pv 1) (pe_callTy L2.call_dictD (by rfl) T.dict (by decide +kernel) (pa_cons (My.pe_fldK (K := K) rfl (pv 0) rfl) pa_nil)) rfl)
  (pss_cons (ps_fld (pv 1) (My.pe_fldK (K := K) rfl (pv 0) rfl) rfl)
  (pss_cons (ps_fld (pv 1) (My.pe_fldK (K := K) rfl (pv 0) rfl) rfl)
  (pss_cons (ps_fld (pv 1) (pe_callTy L2.call_dictD (by rfl) T.dict (by decide +kernel) (pa_cons (My.pe_fldK (K := K) rfl (pv 0) rfl) pa_nil)) rfl)
  (pss_cons (ps_fld (pv 1) (pe_callTy L2.call_dictD (by rfl) T.dict (by decide +kernel) (pa_cons (My.pe_fldK (K := K) rfl (pv 0) rfl) pa_nil)) rfl)
  (pss_one (ps_ret (pv 1)))))))))))))), ?_⟩
    intro x d0 nx nd nex
    have s0 : Same H (upd (upd H d0 (.own x)) x (.ins (He.ga K "Box") d0 [])) := (same_new nd).trans (same_upd (Same.refl _) (by rw [upd_ne nex.symm]; exact nx))
    refine ⟨x, d0, rfl, upd_same, fun H1 l1 v1 e1 r1 bt _ new h1 _ _ _ _ => ⟨rfl, ?_⟩⟩
    have s1 : Same H H1 := fun c o e => bt c o (by simpa using ne_of_none e nx) (s0 _ _ e)
    have fin : ∀ {H' : Hp} {y : Addr} {o u : HO}, H' x = some o → H' y = none → (upd H' y u) x = some o := fun {H' y o u} e n => (upd_ne (ne_of_none e n)).trans e
    have few : 8 < 1000 := by decide
    -- self.ajar
    refine ⟨_, rfl, f.b, _, dx, _, _, rfl, s1 _ _ hb, T.cl_Box, T.no_Box_ajar, rfl, _, rfl, x, _, d0, _, rfl, h1, T.cl_Box, T.no_Box_ajar, few, ?_⟩
    have s2 := same_upd (o := (.ins (He.ga K "Box") d0 (bxf { S0 with ajar := S.ajar } l1 v1 e1 r1))) s1 nx
    have h2 : upd H1 x (.ins (He.ga K "Box") d0 (bxf { S0 with ajar := S.ajar } l1 v1 e1 r1)) x = some (.ins (He.ga K "Box") d0 (bxf { S0 with ajar := S.ajar } l1 v1 e1 r1)) := upd_same
    show Ends.nx _ _ (upd H1 x (.ins (He.ga K "Box") d0 (bxf { S0 with ajar := S.ajar } l1 v1 e1 r1)))
    generalize upd H1 x (.ins (He.ga K "Box") d0 (bxf { S0 with ajar := S.ajar } l1 v1 e1 r1)) = H2 at h2 s2  ⊢
    -- self.inside
    refine ⟨_, rfl, f.b, _, dx, _, _, rfl, s2 _ _ hb, T.cl_Box, T.no_Box_inside, rfl, f.li, _, rfl, .inl (SqL.of (s2 _ _ hf.hli)), fun l2 nl2 => ?_⟩
    have xl2 : l2 ≠ x := (ne_of_none h2 nl2).symm
    have zl2 : H l2 = none := s2.free nl2
    refine ⟨_, rfl, x, _, d0, _, rfl, fin h2 nl2, T.cl_Box, T.no_Box_inside, few, ?_⟩
    have s3 := same_upd (o := (.ins (He.ga K "Box") d0 (bxf { S0 with ajar := S.ajar } l2 v1 e1 r1))) (s2.trans (same_new (o := (.lst (S.inside.map V.int))) nl2)) nx
    have gl2 : upd (upd H2 l2 (.lst (S.inside.map V.int))) x (.ins (He.ga K "Box") d0 (bxf { S0 with ajar := S.ajar } l2 v1 e1 r1)) l2 = some (.lst (S.inside.map V.int)) := (upd_ne xl2).trans upd_same
    have h3 : upd (upd H2 l2 (.lst (S.inside.map V.int))) x (.ins (He.ga K "Box") d0 (bxf { S0 with ajar := S.ajar } l2 v1 e1 r1)) x = some (.ins (He.ga K "Box") d0 (bxf { S0 with ajar := S.ajar } l2 v1 e1 r1)) := upd_same
    show Ends.nx _ _ (upd (upd H2 l2 (.lst (S.inside.map V.int))) x (.ins (He.ga K "Box") d0 (bxf { S0 with ajar := S.ajar } l2 v1 e1 r1)))
    generalize upd (upd H2 l2 (.lst (S.inside.map V.int))) x (.ins (He.ga K "Box") d0 (bxf { S0 with ajar := S.ajar } l2 v1 e1 r1)) = H3 at h3 s3 gl2 ⊢
    -- self.taken_for
    refine ⟨_, rfl, f.b, _, dx, _, _, rfl, s3 _ _ hb, T.cl_Box, T.no_Box_taken_for, rfl, _, rfl, x, _, d0, _, rfl, h3, T.cl_Box, T.no_Box_taken_for, few, ?_⟩
    have s4 := same_upd (o := (.ins (He.ga K "Box") d0 (bxf { S0 with ajar := S.ajar, tf := S.tf } l2 v1 e1 r1))) s3 nx
    have gl2 : upd H3 x (.ins (He.ga K "Box") d0 (bxf { S0 with ajar := S.ajar, tf := S.tf } l2 v1 e1 r1)) l2 = some (.lst (S.inside.map V.int)) := (upd_ne xl2).trans gl2
    have h4 : upd H3 x (.ins (He.ga K "Box") d0 (bxf { S0 with ajar := S.ajar, tf := S.tf } l2 v1 e1 r1)) x = some (.ins (He.ga K "Box") d0 (bxf { S0 with ajar := S.ajar, tf := S.tf } l2 v1 e1 r1)) := upd_same
    show Ends.nx _ _ (upd H3 x (.ins (He.ga K "Box") d0 (bxf { S0 with ajar := S.ajar, tf := S.tf } l2 v1 e1 r1)))
    generalize upd H3 x (.ins (He.ga K "Box") d0 (bxf { S0 with ajar := S.ajar, tf := S.tf } l2 v1 e1 r1)) = H4 at h4 s4 gl2 ⊢
    -- self.valid
    refine ⟨_, rfl, f.b, _, dx, _, _, rfl, s4 _ _ hb, T.cl_Box, T.no_Box_valid, rfl, f.dv, _, rfl, .inl (s4 _ _ hf.hdv), fun v2 nv2 => ?_⟩
    have xv2 : v2 ≠ x := (ne_of_none h4 nv2).symm
    have zv2 : H v2 = none := s4.free nv2
    have yl2v2 : l2 ≠ v2 := ne_of_none gl2 nv2
    refine ⟨_, rfl, x, _, d0, _, rfl, fin h4 nv2, T.cl_Box, T.no_Box_valid, few, ?_⟩
    have s5 := same_upd (o := (.ins (He.ga K "Box") d0 (bxf { S0 with ajar := S.ajar, tf := S.tf } l2 v2 e1 r1))) (s4.trans (same_new (o := (.dK (kvT S.valid))) nv2)) nx
    have gl2 : upd (upd H4 v2 (.dK (kvT S.valid))) x (.ins (He.ga K "Box") d0 (bxf { S0 with ajar := S.ajar, tf := S.tf } l2 v2 e1 r1)) l2 = some (.lst (S.inside.map V.int)) := (upd_ne xl2).trans ((upd_ne yl2v2).trans gl2)
    have gv2 : upd (upd H4 v2 (.dK (kvT S.valid))) x (.ins (He.ga K "Box") d0 (bxf { S0 with ajar := S.ajar, tf := S.tf } l2 v2 e1 r1)) v2 = some (.dK (kvT S.valid)) := (upd_ne xv2).trans upd_same
    have h5 : upd (upd H4 v2 (.dK (kvT S.valid))) x (.ins (He.ga K "Box") d0 (bxf { S0 with ajar := S.ajar, tf := S.tf } l2 v2 e1 r1)) x = some (.ins (He.ga K "Box") d0 (bxf { S0 with ajar := S.ajar, tf := S.tf } l2 v2 e1 r1)) := upd_same
    show Ends.nx _ _ (upd (upd H4 v2 (.dK (kvT S.valid))) x (.ins (He.ga K "Box") d0 (bxf { S0 with ajar := S.ajar, tf := S.tf } l2 v2 e1 r1)))
    generalize upd (upd H4 v2 (.dK (kvT S.valid))) x (.ins (He.ga K "Box") d0 (bxf { S0 with ajar := S.ajar, tf := S.tf } l2 v2 e1 r1)) = H5 at h5 s5 gl2 gv2 ⊢
    -- self.age
    refine ⟨_, rfl, f.b, _, dx, _, _, rfl, s5 _ _ hb, T.cl_Box, T.no_Box_age, rfl, _, rfl, x, _, d0, _, rfl, h5, T.cl_Box, T.no_Box_age, few, ?_⟩
    have s6 := same_upd (o := (.ins (He.ga K "Box") d0 (bxf { S0 with ajar := S.ajar, tf := S.tf, age := S.age } l2 v2 e1 r1))) s5 nx
    have gl2 : upd H5 x (.ins (He.ga K "Box") d0 (bxf { S0 with ajar := S.ajar, tf := S.tf, age := S.age } l2 v2 e1 r1)) l2 = some (.lst (S.inside.map V.int)) := (upd_ne xl2).trans gl2
    have gv2 : upd H5 x (.ins (He.ga K "Box") d0 (bxf { S0 with ajar := S.ajar, tf := S.tf, age := S.age } l2 v2 e1 r1)) v2 = some (.dK (kvT S.valid)) := (upd_ne xv2).trans gv2
    have h6 : upd H5 x (.ins (He.ga K "Box") d0 (bxf { S0 with ajar := S.ajar, tf := S.tf, age := S.age } l2 v2 e1 r1)) x = some (.ins (He.ga K "Box") d0 (bxf { S0 with ajar := S.ajar, tf := S.tf, age := S.age } l2 v2 e1 r1)) := upd_same
    show Ends.nx _ _ (upd H5 x (.ins (He.ga K "Box") d0 (bxf { S0 with ajar := S.ajar, tf := S.tf, age := S.age } l2 v2 e1 r1)))
    generalize upd H5 x (.ins (He.ga K "Box") d0 (bxf { S0 with ajar := S.ajar, tf := S.tf, age := S.age } l2 v2 e1 r1)) = H6 at h6 s6 gl2 gv2 ⊢
    -- self.last
    refine ⟨_, rfl, f.b, _, dx, _, _, rfl, s6 _ _ hb, T.cl_Box, T.no_Box_last, rfl, _, rfl, x, _, d0, _, rfl, h6, T.cl_Box, T.no_Box_last, few, ?_⟩
    have s7 := same_upd (o := (.ins (He.ga K "Box") d0 (bxf { S0 with ajar := S.ajar, tf := S.tf, age := S.age, last := S.last } l2 v2 e1 r1))) s6 nx
    have gl2 : upd H6 x (.ins (He.ga K "Box") d0 (bxf { S0 with ajar := S.ajar, tf := S.tf, age := S.age, last := S.last } l2 v2 e1 r1)) l2 = some (.lst (S.inside.map V.int)) := (upd_ne xl2).trans gl2
    have gv2 : upd H6 x (.ins (He.ga K "Box") d0 (bxf { S0 with ajar := S.ajar, tf := S.tf, age := S.age, last := S.last } l2 v2 e1 r1)) v2 = some (.dK (kvT S.valid)) := (upd_ne xv2).trans gv2
    have h7 : upd H6 x (.ins (He.ga K "Box") d0 (bxf { S0 with ajar := S.ajar, tf := S.tf, age := S.age, last := S.last } l2 v2 e1 r1)) x = some (.ins (He.ga K "Box") d0 (bxf { S0 with ajar := S.ajar, tf := S.tf, age := S.age, last := S.last } l2 v2 e1 r1)) := upd_same
    show Ends.nx _ _ (upd H6 x (.ins (He.ga K "Box") d0 (bxf { S0 with ajar := S.ajar, tf := S.tf, age := S.age, last := S.last } l2 v2 e1 r1)))
    generalize upd H6 x (.ins (He.ga K "Box") d0 (bxf { S0 with ajar := S.ajar, tf := S.tf, age := S.age, last := S.last } l2 v2 e1 r1)) = H7 at h7 s7 gl2 gv2 ⊢
    -- self.sent
    refine ⟨_, rfl, f.b, _, dx, _, _, rfl, s7 _ _ hb, T.cl_Box, T.no_Box_sent, rfl, f.ds, _, rfl, .inl (s7 _ _ hf.hds), fun e2 ne2 => ?_⟩
    have xe2 : e2 ≠ x := (ne_of_none h7 ne2).symm
    have ze2 : H e2 = none := s7.free ne2
    have yl2e2 : l2 ≠ e2 := ne_of_none gl2 ne2
    have yv2e2 : v2 ≠ e2 := ne_of_none gv2 ne2
    refine ⟨_, rfl, x, _, d0, _, rfl, fin h7 ne2, T.cl_Box, T.no_Box_sent, few, ?_⟩
    have s8 := same_upd (o := (.ins (He.ga K "Box") d0 (bxf { S0 with ajar := S.ajar, tf := S.tf, age := S.age, last := S.last } l2 v2 e2 r1))) (s7.trans (same_new (o := (.dK (kvT S.sent))) ne2)) nx
    have gl2 : upd (upd H7 e2 (.dK (kvT S.sent))) x (.ins (He.ga K "Box") d0 (bxf { S0 with ajar := S.ajar, tf := S.tf, age := S.age, last := S.last } l2 v2 e2 r1)) l2 = some (.lst (S.inside.map V.int)) := (upd_ne xl2).trans ((upd_ne yl2e2).trans gl2)
    have gv2 : upd (upd H7 e2 (.dK (kvT S.sent))) x (.ins (He.ga K "Box") d0 (bxf { S0 with ajar := S.ajar, tf := S.tf, age := S.age, last := S.last } l2 v2 e2 r1)) v2 = some (.dK (kvT S.valid)) := (upd_ne xv2).trans ((upd_ne yv2e2).trans gv2)
    have ge2 : upd (upd H7 e2 (.dK (kvT S.sent))) x (.ins (He.ga K "Box") d0 (bxf { S0 with ajar := S.ajar, tf := S.tf, age := S.age, last := S.last } l2 v2 e2 r1)) e2 = some (.dK (kvT S.sent)) := (upd_ne xe2).trans upd_same
    have h8 : upd (upd H7 e2 (.dK (kvT S.sent))) x (.ins (He.ga K "Box") d0 (bxf { S0 with ajar := S.ajar, tf := S.tf, age := S.age, last := S.last } l2 v2 e2 r1)) x = some (.ins (He.ga K "Box") d0 (bxf { S0 with ajar := S.ajar, tf := S.tf, age := S.age, last := S.last } l2 v2 e2 r1)) := upd_same
    show Ends.nx _ _ (upd (upd H7 e2 (.dK (kvT S.sent))) x (.ins (He.ga K "Box") d0 (bxf { S0 with ajar := S.ajar, tf := S.tf, age := S.age, last := S.last } l2 v2 e2 r1)))
    generalize upd (upd H7 e2 (.dK (kvT S.sent))) x (.ins (He.ga K "Box") d0 (bxf { S0 with ajar := S.ajar, tf := S.tf, age := S.age, last := S.last } l2 v2 e2 r1)) = H8 at h8 s8 gl2 gv2 ge2 ⊢
    -- self.served
    refine ⟨_, rfl, f.b, _, dx, _, _, rfl, s8 _ _ hb, T.cl_Box, T.no_Box_served, rfl, f.dr, _, rfl, .inl (s8 _ _ hf.hdr), fun r2 nr2 => ?_⟩
    have xr2 : r2 ≠ x := (ne_of_none h8 nr2).symm
    have zr2 : H r2 = none := s8.free nr2
    have yl2r2 : l2 ≠ r2 := ne_of_none gl2 nr2
    have yv2r2 : v2 ≠ r2 := ne_of_none gv2 nr2
    have ye2r2 : e2 ≠ r2 := ne_of_none ge2 nr2
    refine ⟨_, rfl, x, _, d0, _, rfl, fin h8 nr2, T.cl_Box, T.no_Box_served, few, ?_⟩
    have s9 := same_upd (o := (.ins (He.ga K "Box") d0 (bxf { S0 with ajar := S.ajar, tf := S.tf, age := S.age, last := S.last } l2 v2 e2 r2))) (s8.trans (same_new (o := (.dK (kvT S.served))) nr2)) nx
    have gl2 : upd (upd H8 r2 (.dK (kvT S.served))) x (.ins (He.ga K "Box") d0 (bxf { S0 with ajar := S.ajar, tf := S.tf, age := S.age, last := S.last } l2 v2 e2 r2)) l2 = some (.lst (S.inside.map V.int)) := (upd_ne xl2).trans ((upd_ne yl2r2).trans gl2)
    have gv2 : upd (upd H8 r2 (.dK (kvT S.served))) x (.ins (He.ga K "Box") d0 (bxf { S0 with ajar := S.ajar, tf := S.tf, age := S.age, last := S.last } l2 v2 e2 r2)) v2 = some (.dK (kvT S.valid)) := (upd_ne xv2).trans ((upd_ne yv2r2).trans gv2)
    have ge2 : upd (upd H8 r2 (.dK (kvT S.served))) x (.ins (He.ga K "Box") d0 (bxf { S0 with ajar := S.ajar, tf := S.tf, age := S.age, last := S.last } l2 v2 e2 r2)) e2 = some (.dK (kvT S.sent)) := (upd_ne xe2).trans ((upd_ne ye2r2).trans ge2)
    have gr2 : upd (upd H8 r2 (.dK (kvT S.served))) x (.ins (He.ga K "Box") d0 (bxf { S0 with ajar := S.ajar, tf := S.tf, age := S.age, last := S.last } l2 v2 e2 r2)) r2 = some (.dK (kvT S.served)) := (upd_ne xr2).trans upd_same
    have h9 : upd (upd H8 r2 (.dK (kvT S.served))) x (.ins (He.ga K "Box") d0 (bxf { S0 with ajar := S.ajar, tf := S.tf, age := S.age, last := S.last } l2 v2 e2 r2)) x = some (.ins (He.ga K "Box") d0 (bxf { S0 with ajar := S.ajar, tf := S.tf, age := S.age, last := S.last } l2 v2 e2 r2)) := upd_same
    show Ends.nx _ _ (upd (upd H8 r2 (.dK (kvT S.served))) x (.ins (He.ga K "Box") d0 (bxf { S0 with ajar := S.ajar, tf := S.tf, age := S.age, last := S.last } l2 v2 e2 r2)))
    generalize upd (upd H8 r2 (.dK (kvT S.served))) x (.ins (He.ga K "Box") d0 (bxf { S0 with ajar := S.ajar, tf := S.tf, age := S.age, last := S.last } l2 v2 e2 r2)) = H9 at h9 s9 gl2 gv2 ge2 gr2 ⊢
    refine ⟨_, rfl, q _ ⟨x, l2, v2, e2, r2⟩ s9 ⟨?_, ⟨d0, h9⟩, gl2, gv2, ge2, gr2⟩ ?_⟩
    · simp only [Fp.all, List.nodup_cons, List.mem_cons, List.not_mem_nil, or_false, not_or, not_false_eq_true, List.nodup_nil, and_true]
      exact ⟨⟨xl2.symm, xv2.symm, xe2.symm, xr2.symm⟩, ⟨yl2v2, yl2e2, yl2r2⟩, ⟨yv2e2, yv2r2⟩, ye2r2⟩
    · intro a ha
      simp only [Fp.all, List.mem_cons, List.not_mem_nil, or_false] at ha
      rcases ha with rfl | rfl | rfl | rfl | rfl <;> assumption
theorem c_Box_copied (T : Txt w K mg) : C8.Met P w K mg base 3 (He.ga K "Box") "copied" (sp_Box_copied K) [] := by
  obtain ⟨fd, F⟩ := T.f_Box_copied
  exact ⟨_, fd, _, _, T.cl_Box, T.m_Box_copied, ok_Box_copied T F, F.bindsN (fun _ _ _ _ _ _ us hl => match us, hl with | [_], _ => rfl), .nil⟩
end
end K67

namespace K67
open PySem PySem.Spec PyProof.Rows L2 My
/-! ### walls: what they are -/
/-- how a wall stands, without its sizes and its past -/
structure SnapS where
  d : Int
  rs : List RuleL
  boxes : List BoxS
  given : List (Option Nat)
structure WallS where
  sizes : List Int
  cur : SnapS
  past : List SnapS
def giV : Option Nat → V
  | none => .non
  | some i => .int i
def wlf (k sz bl gl pl : Addr) : List (Str × V) := [("_book", .ref k), ("_sizes", .ref sz), ("_boxes", .ref bl), ("_given", .ref gl), ("_past", .ref pl)]
/-- what may be changed: a list of as, or a wall -/
def Mut (as : List Addr) (H : Hp) (c : Addr) : Prop := (c ∈ as ∧ ∃ l, H c = some (.lst l)) ∨ ∃ C dx k sz bl gl pl, H c = some (.ins C dx (wlf k sz bl gl pl))
structure SnapF (K : PySem.W.Frag) (as : List Addr) (H : Hp) (k bl gl : Addr) (fs : List Fp) (s : SnapS) : Prop where
  book : BookAt K H k s.d s.rs
  good : GoodB s.rs
  hbl : H bl = some (.lst (fs.map fun f => V.ref f.b))
  hfs : Paired (BxF K H) fs s.boxes
  hgl : H gl = some (.lst (s.given.map giV))
  out : ∀ a ∈ bl :: gl :: fs.map Fp.li, a ∉ as
def SnapAt (K : PySem.W.Frag) (as : List Addr) (H : Hp) (k bl gl : Addr) (s : SnapS) : Prop := ∃ fs, SnapF K as H k bl gl fs s
def PastAt (K : PySem.W.Frag) (as : List Addr) (H : Hp) (v : V) (s : SnapS) : Prop := ∃ t k bl gl, v = .ref t ∧ SqT K H t [.ref k, .ref bl, .ref gl] ∧ SnapAt K as H k bl gl s
def WallAt (K : PySem.W.Frag) (as : List Addr) (H : Hp) (w pl : Addr) (W : WallS) : Prop := ∃ dx k sz bl gl xs, H w = some (.ins (He.ga K "Wall") dx (wlf k sz bl gl pl)) ∧ SqT K H sz (W.sizes.map V.int) ∧ SnapAt K as H k bl gl W.cur ∧ H pl = some (.lst xs) ∧ Paired (PastAt K as H) xs W.past ∧ pl ∈ as
theorem mut_tup {as cs : List Addr} {H H' : Hp} {K : PySem.W.Frag} {t : Addr} {xs : List V} (m : ∀ c ∈ cs, Mut as H c) (s : But cs H H') (h : SqT K H t xs) : SqT K H' t xs := by
  rcases h with (h | ⟨o, h⟩) | h
  · refine .inl (.inl (s _ _ (fun z => ?_) h))
    rcases m _ z with ⟨_, l, e⟩ | ⟨_, _, _, _, _, _, _, e⟩ <;> (rw [h] at e; cases e)
  · refine .inl (.inr ⟨o, s _ _ (fun z => ?_) h⟩)
    rcases m _ z with ⟨_, l, e⟩ | ⟨_, _, _, _, _, _, _, e⟩ <;> (rw [h] at e; cases e)
  · exact .inr h
theorem mut_ins {as cs : List Addr} {H H' : Hp} {b C dx : Addr} {fs : List (Str × V)} (m : ∀ c ∈ cs, Mut as H c) (s : But cs H H') (l5 : fs.length ≠ 5) (h : H b = some (.ins C dx fs)) : H' b = some (.ins C dx fs) := by
  refine s _ _ (fun z => ?_) h
  rcases m _ z with ⟨_, l, e⟩ | ⟨_, _, _, _, _, _, _, e⟩
  · rw [h] at e; cases e
  · rw [h] at e
    injection e with e
    injection e with _ _ e
    rw [e] at l5
    exact l5 rfl
theorem mut_lst {as cs : List Addr} {H H' : Hp} {a : Addr} {l : List V} (m : ∀ c ∈ cs, Mut as H c) (s : But cs H H') (o : a ∉ as) (h : H a = some (.lst l)) : H' a = some (.lst l) := by
  refine s _ _ (fun z => ?_) h
  rcases m _ z with ⟨i, _⟩ | ⟨_, _, _, _, _, _, _, e⟩
  · exact o i
  · rw [h] at e; cases e
theorem mut_dk {as cs : List Addr} {H H' : Hp} {a : Addr} {l : List (Key × V)} (m : ∀ c ∈ cs, Mut as H c) (s : But cs H H') (h : H a = some (.dK l)) : H' a = some (.dK l) := by
  refine s _ _ (fun z => ?_) h
  rcases m _ z with ⟨_, l, e⟩ | ⟨_, _, _, _, _, _, _, e⟩ <;> (rw [h] at e; cases e)
theorem mut_book {K : PySem.W.Frag} {as cs : List Addr} {H H' : Hp} {k : Addr} {d : Int} {rs : List RuleL} (m : ∀ c ∈ cs, Mut as H c) (s : But cs H H') (h : BookAt K H k d rs) : BookAt K H' k d rs := by
  obtain ⟨dx, t, qs, h1, h2, h3, h4⟩ := h
  exact ⟨dx, t, qs, mut_ins m s (by show 2 ≠ 5; decide) h1, mut_tup m s h2, paired_map (fun _ _ _ x => mut_tup m s x) h3, h4⟩
theorem mut_bx {K : PySem.W.Frag} {as cs : List Addr} {H H' : Hp} {f : Fp} {S : BoxS} (m : ∀ c ∈ cs, Mut as H c) (s : But cs H H') (o : f.li ∉ as) (h : BxF K H f S) : BxF K H' f S := by
  obtain ⟨dx, hb⟩ := h.hb
  exact ⟨h.nd, ⟨dx, mut_ins m s (by show 8 ≠ 5; decide) hb⟩, mut_lst m s o h.hli, mut_dk m s h.hdv, mut_dk m s h.hds, mut_dk m s h.hdr⟩
theorem SnapF.mut {K : PySem.W.Frag} {as cs : List Addr} {H H' : Hp} {k bl gl : Addr} {fs : List Fp} {s : SnapS} (m : ∀ c ∈ cs, Mut as H c) (b : But cs H H') (h : SnapF K as H k bl gl fs s) : SnapF K as H' k bl gl fs s :=
  ⟨mut_book m b h.book, h.good, mut_lst m b (h.out _ (by simp)) h.hbl, paired_map (fun f S hf x => mut_bx m b (h.out _ (by simp only [List.mem_cons, List.mem_map]; exact .inr (.inr ⟨f, hf, rfl⟩))) x) h.hfs, mut_lst m b (h.out _ (by simp)) h.hgl, h.out⟩
theorem SnapAt.mut {K : PySem.W.Frag} {as cs : List Addr} {H H' : Hp} {k bl gl : Addr} {s : SnapS} (m : ∀ c ∈ cs, Mut as H c) (b : But cs H H') (h : SnapAt K as H k bl gl s) : SnapAt K as H' k bl gl s := by
  obtain ⟨fs, h⟩ := h
  exact ⟨fs, h.mut m b⟩
theorem PastAt.mut {K : PySem.W.Frag} {as cs : List Addr} {H H' : Hp} {v : V} {s : SnapS} (m : ∀ c ∈ cs, Mut as H c) (b : But cs H H') (h : PastAt K as H v s) : PastAt K as H' v s := by
  obtain ⟨t, k, bl, gl, e, h1, h2⟩ := h
  exact ⟨t, k, bl, gl, e, mut_tup m b h1, h2.mut m b⟩
theorem mut_no {as : List Addr} {H : Hp} : ∀ c ∈ ([] : List Addr), Mut as H c := fun c h => by cases h
theorem SnapF.same {K : PySem.W.Frag} {as : List Addr} {H H' : Hp} {k bl gl : Addr} {fs : List Fp} {s : SnapS} (e : Same H H') (h : SnapF K as H k bl gl fs s) : SnapF K as H' k bl gl fs s := h.mut mut_no (But.of e)
theorem SnapAt.same {K : PySem.W.Frag} {as : List Addr} {H H' : Hp} {k bl gl : Addr} {s : SnapS} (e : Same H H') (h : SnapAt K as H k bl gl s) : SnapAt K as H' k bl gl s := h.mut mut_no (But.of e)
theorem PastAt.same {K : PySem.W.Frag} {as : List Addr} {H H' : Hp} {v : V} {s : SnapS} (e : Same H H') (h : PastAt K as H v s) : PastAt K as H' v s := h.mut mut_no (But.of e)
/-- a wall stands as it was where it is not itself changed -/
theorem WallAt.mut {K : PySem.W.Frag} {as cs : List Addr} {H H' : Hp} {w pl : Addr} {W : WallS} (m : ∀ c ∈ cs, Mut as H c) (b : But cs H H') (nw : w ∉ cs) (np : pl ∉ cs) (h : WallAt K as H w pl W) : WallAt K as H' w pl W := by
  obtain ⟨dx, k, sz, bl, gl, xs, h1, h2, h3, h4, h5, h6⟩ := h
  exact ⟨dx, k, sz, bl, gl, xs, b _ _ nw h1, mut_tup m b h2, h3.mut m b, b _ _ np h4, paired_map (fun _ _ _ x => x.mut m b) h5, h6⟩
theorem WallAt.same {K : PySem.W.Frag} {as : List Addr} {H H' : Hp} {w pl : Addr} {W : WallS} (e : Same H H') (h : WallAt K as H w pl W) : WallAt K as H' w pl W := h.mut mut_no (But.of e) (by simp) (by simp)
theorem WallAt.muts {K : PySem.W.Frag} {as : List Addr} {H : Hp} {w pl : Addr} {W : WallS} (h : WallAt K as H w pl W) : ∀ c ∈ [w, pl], Mut as H c := by
  obtain ⟨dx, k, sz, bl, gl, xs, h1, h2, h3, h4, h5, h6⟩ := h
  intro c hc
  simp only [List.mem_cons, List.not_mem_nil, or_false] at hc
  rcases hc with rfl | rfl
  · exact .inr ⟨_, _, _, _, _, _, _, h1⟩
  · exact .inl ⟨h6, _, h4⟩
def GoodSizes (l : List Int) : Prop := 1 ≤ l.length ∧ l.length ≤ 12 ∧ ∀ x ∈ l, 1 ≤ x ∧ x ≤ 9
section
variable {P : Program} {w : World} {K : PySem.W.Frag} {mg : Str → Option Value} {base : Heap}
def sp_is_size (K : PySem.W.Frag) : Sp := fun vs H Q _ => ∃ n : Int, vs = [.int n] ∧ 1 ≤ n ∧ n ≤ 9 ∧ Q (.bl true) H
set_option maxHeartbeats 2000000 in
theorem ok_is_size (T : Txt w K mg) {fd : FuncData} (F : FunD K d_is_size.name d_is_size.qual d_is_size.params d_is_size.body d_is_size.scope (d_is_size.dvs K) (d_is_size.kws K) (He.fAd K d_is_size.at_) fd) : FnOk P w K mg base C8.CX0 2 (He.fAd K d_is_size.at_) fd ["value"] (sp_is_size K) := by
  obtain ⟨t_MOST_SIZE, g_MOST_SIZE⟩ := T.g_MOST_SIZE
  have c_is_integer_within := c_is_integer_within (P := P) (w := w) (base := base) T
  refine F.ok sc_is_size (fun vs H Q E h => ?_) (fun cdv A outer s H vs Q E hr h => ?_)
  · obtain ⟨n, rfl, _⟩ := h
    rfl
  · have hu := L2.hu_of hr
    obtain ⟨n, rfl, h1, h2, q⟩ := h
    refine ⟨_, (PSs.nox ((pss_one (ps_ret (C8.pe_c c_is_integer_within hr (by decide) rfl (pa_cons (pv 0) (pa_cons pe_int (pa_cons (pe_glob (v := .int 9) rfl g_MOST_SIZE ⟨_, rfl⟩) pa_nil)))))))), ?_⟩
    exact ⟨_, rfl, n, 1, 9, rfl, by rw [decide_eq_true h1, decide_eq_true h2]; exact q⟩
theorem c_is_size (T : Txt w K mg) : C8.Cal P w K mg base 2 "is_size" (sp_is_size K) [] := by
  obtain ⟨fd, F⟩ := T.f_is_size
  exact ⟨_, fd, _, _, ok_is_size T F, T.g_is_size, F.kp, F.bindsN (fun _ _ _ _ _ _ us hl => match us, hl with | [_], _ => rfl), .nil⟩
def sp_are_sizes (K : PySem.W.Frag) : Sp := fun vs H Q _ => ∃ (a : Addr) (l : List Int), vs = [.ref a] ∧ SqT K H a (l.map V.int) ∧ GoodSizes l ∧ ∀ H', Same H H' → Q (.bl true) H'
set_option maxHeartbeats 2000000 in
theorem ok_are_sizes (T : Txt w K mg) {fd : FuncData} (F : FunD K d_are_sizes.name d_are_sizes.qual d_are_sizes.params d_are_sizes.body d_are_sizes.scope (d_are_sizes.dvs K) (d_are_sizes.kws K) (He.fAd K d_are_sizes.at_) fd) : FnOk P w K mg base C8.CX0 3 (He.fAd K d_are_sizes.at_) fd ["value"] (sp_are_sizes K) := by
  obtain ⟨t_MOST_BOXES, g_MOST_BOXES⟩ := T.g_MOST_BOXES
  have c_is_size := c_is_size (P := P) (w := w) (base := base) T
  refine F.ok sc_are_sizes (fun vs H Q E h => ?_) (fun cdv A outer s H vs Q E hr h => ?_)
  · obtain ⟨a, l, rfl, _⟩ := h
    rfl
  · have hu := L2.hu_of hr
    obtain ⟨a, l, rfl, hS, hg, q⟩ := h
    refine ⟨_, (PSs.nox ((pss_cons (ps_if (PW.pt (pw_or (pt_not (pt_val (pe_callB (My.isiK (K := K) rfl) (by rfl) T.isinstance (by decide +kernel) (pa_cons (pv 0) (pa_cons (pe_bltn (v := .ty "tuple") (u := .type "tuple") rfl T.tuple (by decide +kernel) rfl) pa_nil))))) (pw_or1 (pt_not (pt_chain op_le op_le pe_int (pe_callB (My.len_seqK (K := K) rfl) (by rfl) T.len (by decide +kernel) (pa_cons (pv 0) pa_nil)) (pe_glob (v := .int 12) rfl g_MOST_BOXES ⟨_, rfl⟩))))))
  (pss_one (ps_ret pe_bl))
  pss_nil)
  (pss_one (ps_ret (pe_callB (My.allK (K := K) rfl rfl) (by rfl) T.all (by decide +kernel) (pa_cons (pe_lc (own := [("size", 1)]) (g := (gName 1)) (tt := tYes) (by rfl) sc_are_sizes.nd (My.pi_tupK (K := K) rfl (pv 0)) (blkOk_by (N := N_are_sizes) (sc := defScope s_are_sizes) (by decide +kernel)) (fun _ _ _ _ _ => (pg_name (i := 1) sc_are_sizes.nd rfl (by first | exact Or.inl rfl | exact Or.inr rfl))) (fun _ _ _ _ _ => pts_nil) (fun _ _ _ _ _ => (C8.pe_c c_is_size hr (by decide) rfl (pa_cons (pv 1) pa_nil)))) pa_nil))))))), ?_⟩
    refine ⟨_, rfl, _, _, _, _, _, rfl, .ty "tuple", tyx_tup hS, L2.kit_ty (by decide +kernel), true, rfl, ?_⟩
    refine L2.iteF ?_
    refine ⟨_, rfl, a, _, rfl, .inr hS, _, _, rfl, rfl, _, rfl, ?_⟩
    have e1 : decide ((1 : Int) ≤ ((l.map V.int).length : Int)) = true := decide_eq_true (by rw [List.length_map]; have := hg.1; omega)
    have e2 : decide (((l.map V.int).length : Int) ≤ 12) = true := decide_eq_true (by rw [List.length_map]; have := hg.2.1; omega)
    rw [e1]
    refine L2.iteT ⟨_, _, rfl, rfl, _, rfl, ?_⟩
    rw [e2]
    refine L2.iteF ?_
    refine ⟨_, rfl, a, rfl, ⟨_, hS⟩, fun D hD => lc_tup (K := K) (a := a) (xs := l.map V.int) (fun i H' => Same H H' ∧ H' D = some (.lst ((List.replicate i true).map V.bl))) ⟨same_new hD, upd_same⟩ (fun i H' _ p => same_tup p.1 hS) ?_ ?_⟩
    · rintro i y H2 hi ⟨s2, hD2⟩
      obtain ⟨z, hz, rfl⟩ := map_get hi
      have hlt : i < l.length := (List.getElem?_eq_some_iff.mp hz).1
      obtain ⟨z1, z2⟩ := hg.2.2 z (List.mem_of_getElem? hz)
      have h12 := hg.2.1
      refine ⟨rfl, ?_⟩
      refine ⟨_, rfl, z, rfl, z1, z2, _, hD2, ?_, same_upd s2 hD, ?_⟩
      · rw [List.length_map, List.length_replicate]
        exact lt_line (by omega)
      · rw [upd_same, List.replicate_succ', List.map_append]
        rfl
    · rintro H2 ⟨s2, hD2⟩
      refine ⟨D, _, rfl, SqL.of hD2, ?_⟩
      have e2 : (List.replicate (l.map V.int).length true).all id = true := List.all_eq_true.mpr fun x hx => (List.mem_replicate.mp hx).2
      rw [e2]
      exact q _ s2
theorem c_are_sizes (T : Txt w K mg) : C8.Cal P w K mg base 3 "are_sizes" (sp_are_sizes K) [] := by
  obtain ⟨fd, F⟩ := T.f_are_sizes
  exact ⟨_, fd, _, _, ok_are_sizes T F, T.g_are_sizes, F.kp, F.bindsN (fun _ _ _ _ _ _ us hl => match us, hl with | [_], _ => rfl), .nil⟩
def sp_check_truths (K : PySem.W.Frag) : Sp := fun vs H Q _ => ∃ (a : Addr) (bs : List Bool), vs = [.ref a] ∧ SqT K H a (bs.map V.bl) ∧ bs.length ≤ 100 ∧ ∀ H', Same H H' → Q .non H'
set_option maxHeartbeats 2000000 in
theorem ok_check_truths (T : Txt w K mg) {fd : FuncData} (F : FunD K d_check_truths.name d_check_truths.qual d_check_truths.params d_check_truths.body d_check_truths.scope (d_check_truths.dvs K) (d_check_truths.kws K) (He.fAd K d_check_truths.at_) fd) : FnOk P w K mg base C8.CX0 3 (He.fAd K d_check_truths.at_) fd ["values"] (sp_check_truths K) := by
  have c_are_truths := c_are_truths (P := P) (w := w) (base := base) T
  refine F.ok sc_check_truths (fun vs H Q E h => ?_) (fun cdv A outer s H vs Q E hr h => ?_)
  · obtain ⟨a, bs, rfl, _⟩ := h
    rfl
  · have hu := L2.hu_of hr
    obtain ⟨a, bs, rfl, hS, hl, q⟩ := h
    refine ⟨_, (PSs.nox ((pss_one (ps_if (pt_not (pt_val (C8.pe_c c_are_truths hr (by decide) rfl (pa_cons (pv 0) pa_nil))))
  (pss_one ps_never)
  pss_nil)))), ?_⟩
    refine ⟨_, rfl, a, bs, rfl, hS, hl, fun H1 s1 => ⟨true, rfl, L2.iteF (q _ s1)⟩⟩
theorem c_check_truths (T : Txt w K mg) : C8.Cal P w K mg base 3 "check_truths" (sp_check_truths K) [] := by
  obtain ⟨fd, F⟩ := T.f_check_truths
  exact ⟨_, fd, _, _, ok_check_truths T F, T.g_check_truths, F.kp, F.bindsN (fun _ _ _ _ _ _ us hl => match us, hl with | [_], _ => rfl), .nil⟩
end
end K67

namespace K67
open PySem PySem.Spec PyProof.Rows L2 My
theorem new_bx {K : PySem.W.Frag} {H H1 : Hp} {x d0 li dv ds dr : Addr} (nx : H x = none) (nd : H d0 = none) (nex : d0 ≠ x) (bt : But [x] (upd (upd H d0 (.own x)) x (.ins (He.ga K "Box") d0 [])) H1) (nd4 : [li, dv, ds, dr].Nodup)
    (new : ∀ a ∈ [li, dv, ds, dr], (upd (upd H d0 (.own x)) x (.ins (He.ga K "Box") d0 [])) a = none) (h1 : H1 x = some (.ins (He.ga K "Box") d0 (bxf S0 li dv ds dr))) (h2 : H1 li = some (.lst [])) (h3 : H1 dv = some (.dK [])) (h4 : H1 ds = some (.dK [])) (h5 : H1 dr = some (.dK [])) :
    Same H H1 ∧ BxF K H1 ⟨x, li, dv, ds, dr⟩ S0 ∧ ∀ a ∈ Fp.all ⟨x, li, dv, ds, dr⟩, H a = none := by
  have s0 : Same H (upd (upd H d0 (.own x)) x (.ins (He.ga K "Box") d0 [])) := (same_new nd).trans (same_upd (Same.refl _) (by rw [upd_ne nex.symm]; exact nx))
  have new2 : ∀ a ∈ [li, dv, ds, dr], a ≠ x ∧ H a = none := fun a ha => by
    obtain ⟨x1, x2⟩ := up_none (new a ha)
    exact ⟨x1, (up_none x2).2⟩
  refine ⟨fun c o e => bt c o (by simpa using ne_of_none e nx) (s0 _ _ e), ⟨?_, ⟨d0, h1⟩, h2, h3, h4, h5⟩, fun a ha => ?_⟩
  · show (x :: [li, dv, ds, dr]).Nodup
    exact List.nodup_cons.mpr ⟨fun z => (new2 x z).1 rfl, nd4⟩
  · rcases List.mem_cons.mp (show a ∈ x :: [li, dv, ds, dr] from ha) with z | z
    · rw [z]; exact nx
    · exact (new2 a z).2
section
variable {P : Program} {w : World} {K : PySem.W.Frag} {mg : Str → Option Value} {base : Heap}
def sp_Wall_init (K : PySem.W.Frag) : Sp := fun vs H Q _ => ∃ (x dx k sz : Addr) (d : Int) (rs : List RuleL) (l : List Int), vs = [.ref x, .ref k, .ref sz] ∧ H x = some (.ins (He.ga K "Wall") dx []) ∧ BookAt K H k d rs ∧ GoodB rs ∧ SqT K H sz (l.map V.int) ∧ GoodSizes l ∧
  ∀ H' pl, But [x] H H' → H pl = none → (∀ as, (∀ a ∈ as, H a ≠ none) → WallAt K (pl :: as) H' x pl ⟨l, ⟨d, rs, List.replicate l.length S0, []⟩, []⟩) → Q .non H'
set_option maxHeartbeats 2000000 in
theorem ok_Wall_init (T : Txt w K mg) {fd : FuncData} (F : FunD K d_Wall_init.name d_Wall_init.qual d_Wall_init.params d_Wall_init.body d_Wall_init.scope (d_Wall_init.dvs K) (d_Wall_init.kws K) (He.fAd K d_Wall_init.at_) fd) : FnOk P w K mg base C8.CX0 4 (He.fAd K d_Wall_init.at_) fd ["self", "book", "sizes"] (sp_Wall_init K) := by
  have c_Box_init := c_Box_init (P := P) (w := w) (base := base) T
  have c_are_sizes := c_are_sizes (P := P) (w := w) (base := base) T
  refine F.ok sc_Wall_init (fun vs H Q E h => ?_) (fun cdv A outer s H vs Q E hr h => ?_)
  · obtain ⟨x, dx, k, sz, d, rs, l, rfl, _⟩ := h
    rfl
  · have hu := L2.hu_of hr
    obtain ⟨x, dx, k, sz, d, rs, l, rfl, hx, hk, hg, hS, hl, q⟩ := h
    refine ⟨_, (PSs.nox ((pss_cons (ps_if (pt_not (pt_val (C8.pe_c c_are_sizes hr (by decide) rfl (pa_cons (pv 2) pa_nil))))
  (pss_one ps_never)
  pss_nil)
  (pss_cons (ps_fld (pv 0) (pv 1) rfl)
  (pss_cons (ps_fld (pv 0) (pv 2) rfl)
  (pss_cons (ps_fld (pv 0) (pe_lc (own := [("_", 3)]) (g := (gName 3)) (tt := tYes) (by rfl) sc_Wall_init.nd (My.pi_tupK (K := K) rfl (pv 2)) (blkOk_by (N := N_Wall_init) (sc := defScope s_Wall_init) (by decide +kernel)) (fun _ _ _ _ _ => (pg_name (i := 3) sc_Wall_init.nd rfl (by first | exact Or.inl rfl | exact Or.inr rfl))) (fun _ _ _ _ _ => pts_nil) (fun _ _ _ _ _ => (My.pe_mk0 c_Box_init hr (by decide) rfl))) rfl)
  (pss_cons (ps_fld (pv 0) (pe_lst pa_nil) rfl)
  (pss_one (ps_fld (pv 0) (pe_lst pa_nil) rfl))))))))), ?_⟩
    refine ⟨_, rfl, sz, l, rfl, hS, hl, fun H1 s1 => ⟨true, rfl, L2.iteF ?_⟩⟩
    have hx1 := s1 _ _ hx
    refine ⟨_, rfl, _, rfl, x, _, dx, _, rfl, hx1, T.cl_Wall, T.no_Wall__book, (by show 0 < 1000; decide), ?_⟩
    refine ⟨_, rfl, _, rfl, x, _, dx, _, rfl, upd_same, T.cl_Wall, T.no_Wall__sizes, (by show 1 < 1000; decide), ?_⟩
    have m0 : ∀ c ∈ [x], c ∈ [x] := fun c h => h
    have b2 : But [x] H (upd (upd H1 x (.ins (He.ga K "Wall") dx (putF "_book" (.ref k) []))) x (.ins (He.ga K "Wall") dx (putF "_sizes" (.ref sz) (putF "_book" (.ref k) [])))) := ((But.of s1).put (.inr (by simp))).put (.inr (by simp))
    have hx2 : upd (upd H1 x (.ins (He.ga K "Wall") dx (putF "_book" (.ref k) []))) x (.ins (He.ga K "Wall") dx (putF "_sizes" (.ref sz) (putF "_book" (.ref k) []))) x = some (.ins (He.ga K "Wall") dx [("_book", .ref k), ("_sizes", .ref sz)]) := upd_same
    show Ends.nx _ [some (.ref x), some (.ref k), some (.ref sz), none] (upd (upd H1 x (.ins (He.ga K "Wall") dx (putF "_book" (.ref k) []))) x (.ins (He.ga K "Wall") dx (putF "_sizes" (.ref sz) (putF "_book" (.ref k) []))))
    generalize upd (upd H1 x (.ins (He.ga K "Wall") dx (putF "_book" (.ref k) []))) x (.ins (He.ga K "Wall") dx (putF "_sizes" (.ref sz) (putF "_book" (.ref k) []))) = H2 at b2 hx2 ⊢
    have tupx : ∀ {H' : Hp} {t : Addr} {xs : List V}, But [x] H H' → SqT K H t xs → SqT K H' t xs := fun b h => by
      rcases h with (h | ⟨o, h⟩) | h
      · exact .inl (.inl (b _ _ (by simpa using (ne_of h hx (fun z => by cases z))) h))
      · exact .inl (.inr ⟨o, b _ _ (by simpa using (ne_of h hx (fun z => by cases z))) h⟩)
      · exact .inr h
    have fr : ∀ {H' : Hp} {a : Addr}, But [x] H H' → H' a = none → H' x ≠ none → H a = none := fun {H' a} b n n2 => b.none (by
      intro z
      rw [List.mem_singleton.mp z] at n
      exact n2 n) n
    refine ⟨_, rfl, sz, rfl, ⟨_, tupx b2 hS⟩, fun D hD => lc_tup (K := K) (a := sz) (xs := l.map V.int) (fun i H' => Same H2 H' ∧ ∃ fs : List Fp, fs.length = i ∧ H' D = some (.lst (fs.map fun f => V.ref f.b)) ∧ Paired (BxF K H') fs (List.replicate i S0) ∧ ∀ f ∈ fs, ∀ a ∈ f.all, H2 a = none ∧ a ≠ D)
      ⟨same_new hD, [], rfl, upd_same, .nil, fun f hf => by cases hf⟩ (fun i H' _ p => same_tup p.1 (tupx b2 hS)) ?_ ?_⟩
    · rintro i y H3 hi ⟨s3, fs, hfl, hD3, hp, hn⟩
      refine ⟨rfl, ?_⟩
      intro y2 d0 nx nd nex
      refine ⟨y2, d0, rfl, upd_same, fun H4 li dv ds dr bt nd4 new h1 h2 h3 h4 h5 => ⟨rfl, ?_⟩⟩
      obtain ⟨s4, hb4, n4⟩ := new_bx nx nd nex bt nd4 new h1 h2 h3 h4 h5
      have hD4 := s4 _ _ hD3
      have h12 := hl.2.1
      have hil : i < l.length := by
        obtain ⟨z, hz, _⟩ := map_get hi
        exact (List.getElem?_eq_some_iff.mp hz).1
      have keep : ∀ {f : Fp} {S : BoxS}, (∀ a ∈ f.all, a ≠ D) → BxF K H4 f S → BxF K (upd H4 D (.lst ((fs.map fun f => V.ref f.b) ++ [.ref y2]))) f S := fun {f S} n hb => hb.but ((But.refl [D] H4).put (.inr (by simp))) fun a ha => by simpa using n a ha
      refine ⟨_, hD4, by rw [List.length_map, hfl]; exact lt_line (by omega), same_upd (s3.trans s4) hD, fs ++ [⟨y2, li, dv, ds, dr⟩], by rw [List.length_append, hfl]; rfl, by rw [upd_same, List.map_append]; rfl, ?_, fun f hf a ha => ?_⟩
      · rw [List.replicate_succ']
        refine Paired.snoc (paired_map (fun f S hf hb => keep (fun a ha => (hn f hf a ha).2) (hb.same s4)) hp) (keep (fun a ha z => ?_) hb4)
        have := n4 a ha
        rw [z, hD3] at this
        cases this
      · rcases List.mem_append.mp hf with hf | hf
        · exact hn f hf a ha
        · rw [List.mem_singleton.mp hf] at ha
          have := n4 a ha
          exact ⟨s3.free this, fun z => by rw [z, hD3] at this; cases this⟩
    · rintro H3 ⟨s3, fs, hfl, hD3, hp, hn⟩
      have hx3 := s3 _ _ hx2
      refine ⟨_, rfl, x, _, dx, _, rfl, hx3, T.cl_Wall, T.no_Wall__boxes, (by show 2 < 1000; decide), ?_⟩
      have nDx : x ≠ D := ne_of_none hx2 hD
      let F4 : List (Str × V) := [("_book", .ref k), ("_sizes", .ref sz), ("_boxes", .ref D)]
      have h4 : upd H3 x (.ins (He.ga K "Wall") dx F4) x = some (.ins (He.ga K "Wall") dx F4) := upd_same
      have D4 : upd H3 x (.ins (He.ga K "Wall") dx F4) D = some (.lst (fs.map fun f => V.ref f.b)) := (upd_ne nDx.symm).trans hD3
      have b4 : But [x] H (upd H3 x (.ins (He.ga K "Wall") dx F4)) := (b2.trans (But.of s3)).put (.inr (by simp))
      have c4 : But [x] H3 (upd H3 x (.ins (He.ga K "Wall") dx F4)) := (But.refl _ _).put (.inr (by simp))
      show Ends.nx _ _ (upd H3 x (.ins (He.ga K "Wall") dx F4))
      generalize upd H3 x (.ins (He.ga K "Wall") dx F4) = H4 at h4 D4 b4 c4 ⊢
      refine ⟨Nat.zero_le _, fun gl ngl => ?_⟩
      have nxg : x ≠ gl := ne_of_none h4 ngl
      have nDg : D ≠ gl := ne_of_none D4 ngl
      refine ⟨_, rfl, x, _, dx, _, rfl, (upd_ne nxg).trans h4, T.cl_Wall, T.no_Wall__given, (by show 3 < 1000; decide), ?_⟩
      let F5 : List (Str × V) := [("_book", .ref k), ("_sizes", .ref sz), ("_boxes", .ref D), ("_given", .ref gl)]
      have h5 : upd (upd H4 gl (.lst [])) x (.ins (He.ga K "Wall") dx F5) x = some (.ins (He.ga K "Wall") dx F5) := upd_same
      have D5 : upd (upd H4 gl (.lst [])) x (.ins (He.ga K "Wall") dx F5) D = some (.lst (fs.map fun f => V.ref f.b)) := (upd_ne nDx.symm).trans ((upd_ne nDg).trans D4)
      have g5 : upd (upd H4 gl (.lst [])) x (.ins (He.ga K "Wall") dx F5) gl = some (.lst []) := (upd_ne nxg.symm).trans upd_same
      have b5 : But [x] H (upd (upd H4 gl (.lst [])) x (.ins (He.ga K "Wall") dx F5)) := (b4.trans (But.of (same_new ngl))).put (.inr (by simp))
      have c5 : But [x] H3 (upd (upd H4 gl (.lst [])) x (.ins (He.ga K "Wall") dx F5)) := (c4.trans (But.of (same_new ngl))).put (.inr (by simp))
      show Ends.nx _ _ (upd (upd H4 gl (.lst [])) x (.ins (He.ga K "Wall") dx F5))
      generalize upd (upd H4 gl (.lst [])) x (.ins (He.ga K "Wall") dx F5) = H5 at h5 D5 g5 b5 c5 ⊢
      refine ⟨Nat.zero_le _, fun pl npl => ?_⟩
      have nxp : x ≠ pl := ne_of_none h5 npl
      have nDp : D ≠ pl := ne_of_none D5 npl
      have ngp : gl ≠ pl := ne_of_none g5 npl
      refine ⟨_, rfl, x, _, dx, _, rfl, (upd_ne nxp).trans h5, T.cl_Wall, T.no_Wall__past, (by show 4 < 1000; decide), ?_⟩
      have b6 : But [x] H (upd (upd H5 pl (.lst [])) x (.ins (He.ga K "Wall") dx (wlf k sz D gl pl))) := (b5.trans (But.of (same_new npl))).put (.inr (by simp))
      have c6 : But [x] H3 (upd (upd H5 pl (.lst [])) x (.ins (He.ga K "Wall") dx (wlf k sz D gl pl))) := (c5.trans (But.of (same_new npl))).put (.inr (by simp))
      have zpl : H pl = none := fr b5 npl (by rw [h5]; intro z; cases z)
      refine q _ pl b6 zpl fun as live => ?_
      have zD : H D = none := fr b2 hD (by rw [hx2]; intro z; cases z)
      have zgl : H gl = none := fr b4 ngl (by rw [h4]; intro z; cases z)
      have liveN : ∀ {a : Addr}, H a = none → a ≠ pl → a ∉ pl :: as := fun {a} n ne z => by
        rcases List.mem_cons.mp z with z | z
        · exact ne z
        · exact live a z n
      have lx : ∀ a ∈ [x], a = x := fun a h => List.mem_singleton.mp h
      refine ⟨dx, k, sz, D, gl, [], upd_same, tupx b6 hS, ⟨fs, ?_, hg, (upd_ne nDx.symm).trans ((upd_ne nDp).trans D5), ?_, (upd_ne nxg.symm).trans ((upd_ne ngp).trans g5), ?_⟩, (upd_ne nxp.symm).trans upd_same, .nil, by simp⟩
      · obtain ⟨dk, t, qs, k1, k2, k3, k4⟩ := hk
        refine ⟨dk, t, qs, b6 _ _ (fun z => ?_) k1, tupx b6 k2, paired_map (fun _ _ _ h => tupx b6 h) k3, k4⟩
        rw [List.mem_singleton.mp z, hx] at k1
        injection k1 with k1
        injection k1 with _ _ k1
        cases k1
      · rw [List.length_map] at hp
        refine paired_map (fun f S hf hb => hb.but c6 fun a ha z => ?_) hp
        have := (hn f hf a ha).1
        rw [lx a z, hx2] at this
        cases this
      · intro a ha
        simp only [List.mem_cons, List.mem_map] at ha
        rcases ha with rfl | rfl | ⟨f, hf, rfl⟩
        · exact liveN zD nDp
        · exact liveN zgl ngp
        · have hn1 := (hn f hf f.li (by simp [Fp.all])).1
          have hlive : H3 f.li ≠ none := by
            obtain ⟨i, hi⟩ := List.mem_iff_getElem?.mp hf
            obtain ⟨S, _, hb⟩ := paired_at hp hi
            rw [hb.hli]; intro z; cases z
          refine liveN (fr b2 hn1 (by rw [hx2]; intro z; cases z)) fun z => ?_
          cases e3 : H3 f.li with
          | none => exact hlive e3
          | some o =>
            have := c5 _ _ (by simpa using fun z => by rw [z, hx2] at hn1; cases hn1) e3
            rw [z, npl] at this
            cases this
theorem c_Wall_init (T : Txt w K mg) : C8.Mak P w K mg base 4 "Wall" (He.ga K "Wall") (sp_Wall_init K) [] := by
  obtain ⟨fd, F⟩ := T.f_Wall_init
  exact ⟨_, fd, _, _, T.mk_Wall, ok_Wall_init T F, T.g_Wall, F.bindsN (fun _ _ _ _ _ _ us hl => match us, hl with | [_, _, _], _ => rfl), .nil⟩
end
end K67

namespace K67
open PySem PySem.Spec PyProof.Rows L2 My
def inW (W : WallS) (n : Int) : Bool := (decide (1 ≤ n) && decide (n ≤ (W.cur.given.length : Int))) && W.cur.boxes.any fun S => decide (n ∈ S.inside)
def lyingW (W : WallS) : Int := (W.cur.boxes.map fun S => (S.inside.length : Int)).sum
theorem snap_bx {K : PySem.W.Frag} {as : List Addr} {H : Hp} {k bl gl : Addr} {fs : List Fp} {s : SnapS} (h : SnapF K as H k bl gl fs s) {i : Nat} {y : V} (e : (fs.map fun f => V.ref f.b)[i]? = some y) : ∃ f S, fs[i]? = some f ∧ s.boxes[i]? = some S ∧ y = .ref f.b ∧ BxF K H f S := by
  obtain ⟨f, hf, rfl⟩ := map_get e
  obtain ⟨S, hS, hb⟩ := paired_at h.hfs hf
  exact ⟨f, S, hf, hS, rfl, hb⟩
section
variable {P : Program} {w : World} {K : PySem.W.Frag} {mg : Str → Option Value} {base : Heap}
def sp_Wall__len__ (K : PySem.W.Frag) : Sp := fun vs H Q _ => ∃ (x pl : Addr) (as : List Addr) (W : WallS), vs = [.ref x] ∧ WallAt K as H x pl W ∧ Q (.int (W.sizes.length : Int)) H
set_option maxHeartbeats 2000000 in
theorem ok_Wall__len__ (T : Txt w K mg) {fd : FuncData} (F : FunD K d_Wall__len__.name d_Wall__len__.qual d_Wall__len__.params d_Wall__len__.body d_Wall__len__.scope (d_Wall__len__.dvs K) (d_Wall__len__.kws K) (He.fAd K d_Wall__len__.at_) fd) : FnOk P w K mg base C8.CX0 1 (He.fAd K d_Wall__len__.at_) fd ["self"] (sp_Wall__len__ K) := by
  refine F.ok sc_Wall__len__ (fun vs H Q E h => ?_) (fun cdv A outer s H vs Q E hr h => ?_)
  · obtain ⟨x, pl, as, W, rfl, _⟩ := h
    rfl
  · have hu := L2.hu_of hr
    obtain ⟨x, pl, as, W, rfl, ⟨dx, k, sz, bl, gl, xs, hx, hS, _⟩, q⟩ := h
    refine ⟨_, (PSs.nox ((pss_one (ps_ret (pe_callB (My.len_seqK (K := K) rfl) (by rfl) T.len (by decide +kernel) (pa_cons (My.pe_fldK (K := K) rfl (pv 0) rfl) pa_nil)))))), ?_⟩
    refine ⟨_, rfl, x, _, dx, _, _, rfl, hx, T.cl_Wall, T.no_Wall__sizes, rfl, sz, _, rfl, .inr hS, ?_⟩
    rw [List.length_map]
    exact q
theorem c_Wall__len__ (T : Txt w K mg) : C8.Met P w K mg base 1 (He.ga K "Wall") "__len__" (sp_Wall__len__ K) [] := by
  obtain ⟨fd, F⟩ := T.f_Wall__len__
  exact ⟨_, fd, _, _, T.cl_Wall, T.m_Wall__len__, ok_Wall__len__ T F, F.bindsN (fun _ _ _ _ _ _ us hl => match us, hl with | [_], _ => rfl), .nil⟩
def sp_Wall_was_brought (K : PySem.W.Frag) : Sp := fun vs H Q _ => ∃ (x pl : Addr) (as : List Addr) (W : WallS) (n : Int), vs = [.ref x, .int n] ∧ WallAt K as H x pl W ∧ Q (.bl (decide (1 ≤ n) && decide (n ≤ (W.cur.given.length : Int)))) H
set_option maxHeartbeats 2000000 in
theorem ok_Wall_was_brought (T : Txt w K mg) {fd : FuncData} (F : FunD K d_Wall_was_brought.name d_Wall_was_brought.qual d_Wall_was_brought.params d_Wall_was_brought.body d_Wall_was_brought.scope (d_Wall_was_brought.dvs K) (d_Wall_was_brought.kws K) (He.fAd K d_Wall_was_brought.at_) fd) : FnOk P w K mg base C8.CX0 2 (He.fAd K d_Wall_was_brought.at_) fd ["self", "value"] (sp_Wall_was_brought K) := by
  have c_is_integer_within := c_is_integer_within (P := P) (w := w) (base := base) T
  refine F.ok sc_Wall_was_brought (fun vs H Q E h => ?_) (fun cdv A outer s H vs Q E hr h => ?_)
  · obtain ⟨x, pl, as, W, n, rfl, _⟩ := h
    rfl
  · have hu := L2.hu_of hr
    obtain ⟨x, pl, as, W, n, rfl, ⟨dx, k, sz, bl, gl, xs, hx, hS, ⟨fs, hF⟩, _⟩, q⟩ := h
    refine ⟨_, (PSs.nox ((pss_one (ps_ret (C8.pe_c c_is_integer_within hr (by decide) rfl (pa_cons (pv 1) (pa_cons pe_int (pa_cons (pe_callB (My.len_seqK (K := K) rfl) (by rfl) T.len (by decide +kernel) (pa_cons (My.pe_fldK (K := K) rfl (pv 0) rfl) pa_nil)) pa_nil)))))))), ?_⟩
    refine ⟨_, rfl, _, rfl, x, _, dx, _, _, rfl, hx, T.cl_Wall, T.no_Wall__given, rfl, gl, _, rfl, .inl (SqL.of hF.hgl), n, 1, _, rfl, ?_⟩
    rw [List.length_map]
    exact q
theorem c_Wall_was_brought (T : Txt w K mg) : C8.Met P w K mg base 2 (He.ga K "Wall") "_was_brought" (sp_Wall_was_brought K) [] := by
  obtain ⟨fd, F⟩ := T.f_Wall_was_brought
  exact ⟨_, fd, _, _, T.cl_Wall, T.m_Wall_was_brought, ok_Wall_was_brought T F, F.bindsN (fun _ _ _ _ _ _ us hl => match us, hl with | [_, _], _ => rfl), .nil⟩
def sp_Wall__contains__ (K : PySem.W.Frag) : Sp := fun vs H Q _ => ∃ (x pl : Addr) (as : List Addr) (W : WallS) (n : Int), vs = [.ref x, .int n] ∧ WallAt K as H x pl W ∧ W.cur.boxes.length ≤ 12 ∧ ∀ H', Same H H' → Q (.bl (inW W n)) H'
set_option maxHeartbeats 2000000 in
theorem ok_Wall__contains__ (T : Txt w K mg) {fd : FuncData} (F : FunD K d_Wall__contains__.name d_Wall__contains__.qual d_Wall__contains__.params d_Wall__contains__.body d_Wall__contains__.scope (d_Wall__contains__.dvs K) (d_Wall__contains__.kws K) (He.fAd K d_Wall__contains__.at_) fd) : FnOk P w K mg base C8.CX0 3 (He.fAd K d_Wall__contains__.at_) fd ["self", "parcel"] (sp_Wall__contains__ K) := by
  have c_Wall_was_brought := c_Wall_was_brought (P := P) (w := w) (base := base) T
  refine F.ok sc_Wall__contains__ (fun vs H Q E h => ?_) (fun cdv A outer s H vs Q E hr h => ?_)
  · obtain ⟨x, pl, as, W, n, rfl, _⟩ := h
    rfl
  · have hu := L2.hu_of hr
    obtain ⟨x, pl, as, W, n, rfl, hW, h12, q⟩ := h
    obtain ⟨dx, k, sz, bl, gl, xs, hx, hS, ⟨fs, hF⟩, r⟩ := id hW
    refine ⟨_, (PSs.nox ((pss_cons (ps_if (pt_not (pt_val (C8.pe_mt c_Wall_was_brought hr (by decide) (pv 0) (pa_cons (pv 1) pa_nil))))
  (pss_one (ps_ret pe_bl))
  pss_nil)
  (pss_one (ps_ret (pe_callB (My.anyK (K := K) rfl rfl) (by rfl) T.any (by decide +kernel) (pa_cons (pe_lc (own := [("box", 2)]) (g := (gName 2)) (tt := tYes) (by rfl) sc_Wall__contains__.nd (My.pi_listK (K := K) rfl (My.pe_fldK (K := K) rfl (pv 0) rfl)) (blkOk_by (N := N_Wall__contains__) (sc := defScope s_Wall__contains__) (by decide +kernel)) (fun _ _ _ _ _ => (pg_name (i := 2) sc_Wall__contains__.nd rfl (by first | exact Or.inl rfl | exact Or.inr rfl))) (fun _ _ _ _ _ => pts_nil) (fun _ _ _ _ _ => (pe_cmpR (My.in_seqK (K := K) rfl) (pv 1) (My.pe_fldK (K := K) rfl (pv 2) rfl) (by rfl)))) pa_nil))))))), ?_⟩
    refine ⟨_, rfl, x, dx, _, rfl, hx, rfl, _, rfl, x, pl, as, W, n, rfl, hW, ?_⟩
    refine ⟨_, rfl, ?_⟩
    cases c : (decide (1 ≤ n) && decide (n ≤ (W.cur.given.length : Int))) with
    | false =>
      refine L2.iteT ?_
      have e : inW W n = false := by unfold inW; rw [c]; rfl
      rw [e] at q
      exact q _ (Same.refl _)
    | true =>
      refine L2.iteF ?_
      refine ⟨_, rfl, x, _, dx, _, _, rfl, hx, T.cl_Wall, T.no_Wall__boxes, rfl, bl, rfl, ⟨_, SqL.of hF.hbl⟩, fun D hD => lc_list (K := K) (a := bl) (xs := fs.map fun f => V.ref f.b) (fun i H' => Same H H' ∧ H' D = some (.lst (((W.cur.boxes.take i).map fun S => decide (n ∈ S.inside)).map V.bl))) ⟨same_new hD, upd_same⟩ (fun i H' _ z => SqL.of (z.1 _ _ hF.hbl)) ?_ ?_⟩
      · rintro i y H2 hi ⟨s2, hD2⟩
        obtain ⟨f, S, hf, hS2, rfl, hb⟩ := snap_bx hF hi
        obtain ⟨db, hbx⟩ := hb.hb
        refine ⟨rfl, ?_⟩
        refine ⟨_, rfl, _, rfl, f.b, _, db, _, _, rfl, s2 _ _ hbx, T.cl_Box, T.no_Box_inside, rfl, f.li, _, rfl, .inl (SqL.of (s2 _ _ hb.hli)), rfl, all_flat_int _, _, hD2, ?_, same_upd s2 hD, ?_⟩
        · rw [List.length_map, List.length_map, List.length_take]
          exact lt_line (by omega)
        · rw [upd_same, take_more hS2, List.map_append, List.map_append, if_neg Bool.false_ne_true, inV_int]
          rfl
      · rintro H2 ⟨s2, hD2⟩
        rw [List.length_map, hF.hfs.length, List.take_length] at hD2
        refine ⟨D, _, rfl, SqL.of hD2, ?_⟩
        have e : ((W.cur.boxes.map fun S => decide (n ∈ S.inside))).any id = inW W n := by
          unfold inW
          rw [c, List.any_map]
          rfl
        rw [e]
        exact q _ s2
theorem c_Wall__contains__ (T : Txt w K mg) : C8.Met P w K mg base 3 (He.ga K "Wall") "__contains__" (sp_Wall__contains__ K) [] := by
  obtain ⟨fd, F⟩ := T.f_Wall__contains__
  exact ⟨_, fd, _, _, T.cl_Wall, T.m_Wall__contains__, ok_Wall__contains__ T F, F.bindsN (fun _ _ _ _ _ _ us hl => match us, hl with | [_, _], _ => rfl), .nil⟩
def sp_Wall_parcels (K : PySem.W.Frag) : Sp := fun vs H Q _ => ∃ (x pl : Addr) (as : List Addr) (W : WallS), vs = [.ref x] ∧ WallAt K as H x pl W ∧ Q (.int (W.cur.given.length : Int)) H
set_option maxHeartbeats 2000000 in
theorem ok_Wall_parcels (T : Txt w K mg) {fd : FuncData} (F : FunD K d_Wall_parcels.name d_Wall_parcels.qual d_Wall_parcels.params d_Wall_parcels.body d_Wall_parcels.scope (d_Wall_parcels.dvs K) (d_Wall_parcels.kws K) (My.gAd K ("Wall", "parcels")) fd) : FnOk P w K mg base C8.CX0 1 (My.gAd K ("Wall", "parcels")) fd ["self"] (sp_Wall_parcels K) := by
  refine F.ok sc_Wall_parcels (fun vs H Q E h => ?_) (fun cdv A outer s H vs Q E hr h => ?_)
  · obtain ⟨x, pl, as, W, rfl, _⟩ := h
    rfl
  · have hu := L2.hu_of hr
    obtain ⟨x, pl, as, W, rfl, ⟨dx, k, sz, bl, gl, xs, hx, hS, ⟨fs, hF⟩, _⟩, q⟩ := h
    refine ⟨_, (PSs.nox ((pss_one (ps_ret (pe_callB (My.len_seqK (K := K) rfl) (by rfl) T.len (by decide +kernel) (pa_cons (My.pe_fldK (K := K) rfl (pv 0) rfl) pa_nil)))))), ?_⟩
    refine ⟨_, rfl, x, _, dx, _, _, rfl, hx, T.cl_Wall, T.no_Wall__given, rfl, gl, _, rfl, .inl (SqL.of hF.hgl), ?_⟩
    rw [List.length_map]
    exact q
theorem c_Wall_parcels (T : Txt w K mg) : My.Prp P w K mg base 1 (He.ga K "Wall") "parcels" (sp_Wall_parcels K) := by
  obtain ⟨fd, F⟩ := T.f_Wall_parcels
  obtain ⟨pa, pr⟩ := T.pr_Wall_parcels
  exact ⟨pa, _, fd, _, T.cl_Wall, pr, ok_Wall_parcels T F, F.bindsN (fun _ _ _ _ _ _ us hl => match us, hl with | [_], _ => rfl)⟩
def sp_Wall_lying (K : PySem.W.Frag) : Sp := fun vs H Q _ => ∃ (x pl : Addr) (as : List Addr) (W : WallS), vs = [.ref x] ∧ WallAt K as H x pl W ∧ W.cur.boxes.length ≤ 12 ∧ ∀ H', Same H H' → Q (.int (lyingW W)) H'
set_option maxHeartbeats 2000000 in
theorem ok_Wall_lying (T : Txt w K mg) {fd : FuncData} (F : FunD K d_Wall_lying.name d_Wall_lying.qual d_Wall_lying.params d_Wall_lying.body d_Wall_lying.scope (d_Wall_lying.dvs K) (d_Wall_lying.kws K) (My.gAd K ("Wall", "lying")) fd) : FnOk P w K mg base C8.CX0 1 (My.gAd K ("Wall", "lying")) fd ["self"] (sp_Wall_lying K) := by
  refine F.ok sc_Wall_lying (fun vs H Q E h => ?_) (fun cdv A outer s H vs Q E hr h => ?_)
  · obtain ⟨x, pl, as, W, rfl, _⟩ := h
    rfl
  · have hu := L2.hu_of hr
    obtain ⟨x, pl, as, W, rfl, hW, h12, q⟩ := h
    obtain ⟨dx, k, sz, bl, gl, xs, hx, hS, ⟨fs, hF⟩, r⟩ := id hW
    refine ⟨_, (PSs.nox ((pss_one (ps_ret (pe_callB (My.sumK (K := K) rfl rfl) (by rfl) T.sum (by decide +kernel) (pa_cons (pe_lc (own := [("box", 1)]) (g := (gName 1)) (tt := tYes) (by rfl) sc_Wall_lying.nd (My.pi_listK (K := K) rfl (My.pe_fldK (K := K) rfl (pv 0) rfl)) (blkOk_by (N := N_Wall_lying) (sc := defScope s_Wall_lying) (by decide +kernel)) (fun _ _ _ _ _ => (pg_name (i := 1) sc_Wall_lying.nd rfl (by first | exact Or.inl rfl | exact Or.inr rfl))) (fun _ _ _ _ _ => pts_nil) (fun _ _ _ _ _ => (pe_callB (My.len_seqK (K := K) rfl) (by rfl) T.len (by decide +kernel) (pa_cons (My.pe_fldK (K := K) rfl (pv 1) rfl) pa_nil)))) pa_nil)))))), ?_⟩
    refine ⟨_, rfl, x, _, dx, _, _, rfl, hx, T.cl_Wall, T.no_Wall__boxes, rfl, bl, rfl, ⟨_, SqL.of hF.hbl⟩, fun D hD => lc_list (K := K) (a := bl) (xs := fs.map fun f => V.ref f.b) (fun i H' => Same H H' ∧ H' D = some (.lst (((W.cur.boxes.take i).map fun S => (S.inside.length : Int)).map V.int))) ⟨same_new hD, upd_same⟩ (fun i H' _ z => SqL.of (z.1 _ _ hF.hbl)) ?_ ?_⟩
    · rintro i y H2 hi ⟨s2, hD2⟩
      obtain ⟨f, S, hf, hS2, rfl, hb⟩ := snap_bx hF hi
      obtain ⟨db, hbx⟩ := hb.hb
      refine ⟨rfl, ?_⟩
      refine ⟨_, rfl, f.b, _, db, _, _, rfl, s2 _ _ hbx, T.cl_Box, T.no_Box_inside, rfl, f.li, _, rfl, .inl (SqL.of (s2 _ _ hb.hli)), ?_⟩
      refine ⟨_, hD2, ?_, same_upd s2 hD, ?_⟩
      · rw [List.length_map, List.length_map, List.length_take]
        exact lt_line (by omega)
      · rw [upd_same, List.length_map, take_more hS2, List.map_append, List.map_append]
        rfl
    · rintro H2 ⟨s2, hD2⟩
      rw [List.length_map, hF.hfs.length, List.take_length] at hD2
      exact ⟨D, _, rfl, SqL.of hD2, q _ s2⟩
theorem c_Wall_lying (T : Txt w K mg) : My.Prp P w K mg base 1 (He.ga K "Wall") "lying" (sp_Wall_lying K) := by
  obtain ⟨fd, F⟩ := T.f_Wall_lying
  obtain ⟨pa, pr⟩ := T.pr_Wall_lying
  exact ⟨pa, _, fd, _, T.cl_Wall, pr, ok_Wall_lying T F, F.bindsN (fun _ _ _ _ _ _ us hl => match us, hl with | [_], _ => rfl)⟩
def sp_Wall_check_box (K : PySem.W.Frag) : Sp := fun vs H Q _ => ∃ (x pl : Addr) (as : List Addr) (W : WallS) (n : Int), vs = [.ref x, .int n] ∧ WallAt K as H x pl W ∧ 0 ≤ n ∧ n < (W.cur.boxes.length : Int) ∧ Q .non H
set_option maxHeartbeats 2000000 in
theorem ok_Wall_check_box (T : Txt w K mg) {fd : FuncData} (F : FunD K d_Wall_check_box.name d_Wall_check_box.qual d_Wall_check_box.params d_Wall_check_box.body d_Wall_check_box.scope (d_Wall_check_box.dvs K) (d_Wall_check_box.kws K) (He.fAd K d_Wall_check_box.at_) fd) : FnOk P w K mg base C8.CX0 2 (He.fAd K d_Wall_check_box.at_) fd ["self", "number"] (sp_Wall_check_box K) := by
  have c_is_integer_within := c_is_integer_within (P := P) (w := w) (base := base) T
  refine F.ok sc_Wall_check_box (fun vs H Q E h => ?_) (fun cdv A outer s H vs Q E hr h => ?_)
  · obtain ⟨x, pl, as, W, n, rfl, _⟩ := h
    rfl
  · have hu := L2.hu_of hr
    obtain ⟨x, pl, as, W, n, rfl, ⟨dx, k, sz, bl, gl, xs, hx, hS, ⟨fs, hF⟩, _⟩, h0, h1, q⟩ := h
    refine ⟨_, (PSs.nox ((pss_one (ps_if (pt_not (pt_val (C8.pe_c c_is_integer_within hr (by decide) rfl (pa_cons (pv 1) (pa_cons pe_int (pa_cons (pe_op op_sub (pe_callB (My.len_seqK (K := K) rfl) (by rfl) T.len (by decide +kernel) (pa_cons (My.pe_fldK (K := K) rfl (pv 0) rfl) pa_nil)) pe_int) pa_nil))))))
  (pss_one ps_never)
  pss_nil)))), ?_⟩
    refine ⟨_, rfl, _, rfl, x, _, dx, _, _, rfl, hx, T.cl_Wall, T.no_Wall__boxes, rfl, bl, _, rfl, .inl (SqL.of hF.hbl), _, _, rfl, rfl, n, 0, _, rfl, true, ?_, L2.iteF q⟩
    rw [List.length_map, hF.hfs.length, decide_eq_true h0, decide_eq_true (show n ≤ (W.cur.boxes.length : Int) - 1 by omega)]
    rfl
theorem c_Wall_check_box (T : Txt w K mg) : C8.Met P w K mg base 2 (He.ga K "Wall") "_check_box" (sp_Wall_check_box K) [] := by
  obtain ⟨fd, F⟩ := T.f_Wall_check_box
  exact ⟨_, fd, _, _, T.cl_Wall, T.m_Wall_check_box, ok_Wall_check_box T F, F.bindsN (fun _ _ _ _ _ _ us hl => match us, hl with | [_, _], _ => rfl), .nil⟩
end
end K67

namespace K67
open PySem PySem.Spec PyProof.Rows L2 My
def foots (fs : List Fp) : List Addr := fs.flatMap Fp.all
theorem foots_app (a b : List Fp) : foots (a ++ b) = foots a ++ foots b := List.flatMap_append
theorem foots_mem {fs : List Fp} {f : Fp} {a : Addr} (hf : f ∈ fs) (ha : a ∈ f.all) : a ∈ foots fs := List.mem_flatMap.mpr ⟨f, hf, ha⟩
/-- a wall at work: what is its own is new, all else stands beside it -/
structure WorkAt (K : PySem.W.Frag) (as : List Addr) (H0 H : Hp) (x pl dx k sz bl gl : Addr) (fs : List Fp) (xs : List V) (W : WallS) : Prop where
  but : But [x, pl] H0 H
  hx : hideF (bl :: gl :: foots fs) H x = some (.ins (He.ga K "Wall") dx (wlf k sz bl gl pl))
  hsz : SqT K (hideF (bl :: gl :: foots fs) H) sz (W.sizes.map V.int)
  book : BookAt K (hideF (bl :: gl :: foots fs) H) k W.cur.d W.cur.rs
  good : GoodB W.cur.rs
  hpl : hideF (bl :: gl :: foots fs) H pl = some (.lst xs)
  past : Paired (PastAt K as (hideF (bl :: gl :: foots fs) H)) xs W.past
  pin : pl ∈ as
  hbl : H bl = some (.lst (fs.map fun f => V.ref f.b))
  hgl : H gl = some (.lst (W.cur.given.map giV))
  hfs : Paired (BxF K H) fs W.cur.boxes
  out : ∀ a ∈ bl :: gl :: fs.map Fp.li, a ∉ as
  new : ∀ a ∈ bl :: gl :: foots fs, H0 a = none
  nd : (bl :: gl :: foots fs).Nodup
theorem WorkAt.wall {K : PySem.W.Frag} {as : List Addr} {H0 H : Hp} {x pl dx k sz bl gl : Addr} {fs : List Fp} {xs : List V} {W : WallS} (h : WorkAt K as H0 H x pl dx k sz bl gl fs xs W) : WallAt K as H x pl W :=
  have e := hide_same (bl :: gl :: foots fs) H
  ⟨dx, k, sz, bl, gl, xs, e _ _ h.hx, same_tup e h.hsz, ⟨fs, h.book.same e, h.good, h.hbl, h.hfs, h.hgl, h.out⟩, e _ _ h.hpl, paired_map (fun _ _ _ z => z.same e) h.past, h.pin⟩
theorem live_of {as : List Addr} {H : Hp} (live : ∀ a ∈ as, H a ≠ none) {a : Addr} (n : H a = none) : a ∉ as := fun z => live a z n
section
variable {P : Program} {w : World} {K : PySem.W.Frag} {mg : Str → Option Value} {base : Heap}
def remW (W : WallS) : WallS := ⟨W.sizes, W.cur, W.past ++ [W.cur]⟩
def sp_Wall_remember (K : PySem.W.Frag) : Sp := fun vs H Q _ => ∃ (x pl : Addr) (as : List Addr) (W : WallS), vs = [.ref x] ∧ WallAt K as H x pl W ∧ (∀ a ∈ as, H a ≠ none) ∧ W.cur.boxes.length ≤ 12 ∧ W.past.length ≤ 100000 ∧
  ∀ H' dx k sz bl gl fs xs, WorkAt K as H H' x pl dx k sz bl gl fs xs (remW W) → Q .non H'
set_option maxHeartbeats 2000000 in
theorem ok_Wall_remember (T : Txt w K mg) {fd : FuncData} (F : FunD K d_Wall_remember.name d_Wall_remember.qual d_Wall_remember.params d_Wall_remember.body d_Wall_remember.scope (d_Wall_remember.dvs K) (d_Wall_remember.kws K) (He.fAd K d_Wall_remember.at_) fd) : FnOk P w K mg base C8.CX0 4 (He.fAd K d_Wall_remember.at_) fd ["self"] (sp_Wall_remember K) := by
  have c_Box_copied := c_Box_copied (P := P) (w := w) (base := base) T
  refine F.ok sc_Wall_remember (fun vs H Q E h => ?_) (fun cdv A outer s H vs Q E hr h => ?_)
  · obtain ⟨x, pl, as, W, rfl, _⟩ := h
    rfl
  · have hu := L2.hu_of hr
    obtain ⟨x, pl, as, W, rfl, hW, live, h12, hpa, q⟩ := h
    obtain ⟨dx, k, sz, bl, gl, xs, hx, hS, ⟨fs, hF⟩, hpl, hxs, hin⟩ := id hW
    refine ⟨_, (PSs.nox ((pss_cons (ps_expr (My.pe_bmK (K := K) rfl PySem.F.plainAttrs_list PySem.F.slot_list_append PySem.F.type_list_append mt_append (My.pe_fldK (K := K) rfl (pv 0) rfl) (pa_cons (pe_tup (pa_cons (My.pe_fldK (K := K) rfl (pv 0) rfl) (pa_cons (My.pe_fldK (K := K) rfl (pv 0) rfl) (pa_cons (My.pe_fldK (K := K) rfl (pv 0) rfl) pa_nil)))) pa_nil)))
  (pss_cons (ps_fld (pv 0) (pe_lc (own := [("box", 1)]) (g := (gName 1)) (tt := tYes) (by rfl) sc_Wall_remember.nd (My.pi_listK (K := K) rfl (My.pe_fldK (K := K) rfl (pv 0) rfl)) (blkOk_by (N := N_Wall_remember) (sc := defScope s_Wall_remember) (by decide +kernel)) (fun _ _ _ _ _ => (pg_name (i := 1) sc_Wall_remember.nd rfl (by first | exact Or.inl rfl | exact Or.inr rfl))) (fun _ _ _ _ _ => pts_nil) (fun _ _ _ _ _ => (C8.pe_mt0 c_Box_copied hr (by decide) (pv 1)))) rfl)
  (pss_one (ps_fld (pv 0) (pe_callTy (My.list_ofK (K := K) rfl) (by rfl) T.list (by decide +kernel) (pa_cons (My.pe_fldK (K := K) rfl (pv 0) rfl) pa_nil)) rfl)))))), ?_⟩
    have npx : pl ≠ x := ne_of hpl hx (fun z => by cases z)
    -- self._past.append(..)
    refine ⟨_, rfl, x, _, dx, _, _, rfl, hx, T.cl_Wall, T.no_Wall__past, rfl, .inl ⟨rfl, _, SqL.of hpl⟩, ?_⟩
    refine ⟨_, rfl, x, _, dx, _, _, rfl, hx, T.cl_Wall, T.no_Wall__book, rfl, _, rfl, x, _, dx, _, _, rfl, hx, T.cl_Wall, T.no_Wall__boxes, rfl, _, rfl, x, _, dx, _, _, rfl, hx, T.cl_Wall, T.no_Wall__given, rfl, by show 3 ≤ sizeLine; decide, fun t nt => ?_⟩
    have nxt : x ≠ t := ne_of_none hx nt
    have npt : pl ≠ t := ne_of_none hpl nt
    refine ⟨pl, _, _, rfl, rfl, (upd_ne npt).trans hpl, ?_, ?_⟩
    · rw [hxs.length]
      exact lt_line (by omega)
    have b1 : But [x, pl] H (upd (upd H t (.tup [.ref k, .ref bl, .ref gl])) pl (.lst (xs ++ [.ref t]))) := (But.of (same_new nt)).put (.inr (by simp))
    have hx1 : upd (upd H t (.tup [.ref k, .ref bl, .ref gl])) pl (.lst (xs ++ [.ref t])) x = some (.ins (He.ga K "Wall") dx (wlf k sz bl gl pl)) := (upd_ne npx.symm).trans ((upd_ne nxt).trans hx)
    have hp1 : upd (upd H t (.tup [.ref k, .ref bl, .ref gl])) pl (.lst (xs ++ [.ref t])) pl = some (.lst (xs ++ [.ref t])) := upd_same
    have ht1 : upd (upd H t (.tup [.ref k, .ref bl, .ref gl])) pl (.lst (xs ++ [.ref t])) t = some (.tup [.ref k, .ref bl, .ref gl]) := (upd_ne npt.symm).trans upd_same
    have muts := hW.muts
    have hF1 := hF.mut muts b1
    show Ends.nx _ _ (upd (upd H t (.tup [.ref k, .ref bl, .ref gl])) pl (.lst (xs ++ [.ref t])))
    generalize upd (upd H t (.tup [.ref k, .ref bl, .ref gl])) pl (.lst (xs ++ [.ref t])) = H1 at b1 hx1 hp1 ht1 hF1 ⊢
    have fr1 : ∀ {a : Addr}, H1 a = none → H a = none := fun {a} n => b1.none (fun z => by
      simp only [List.mem_cons, List.not_mem_nil, or_false] at z
      rcases z with rfl | rfl
      · rw [hx1] at n; cases n
      · rw [hp1] at n; cases n) n
    -- self._boxes = [box.copied() ..]
    refine ⟨_, rfl, x, _, dx, _, _, rfl, hx1, T.cl_Wall, T.no_Wall__boxes, rfl, bl, rfl, ⟨_, SqL.of hF1.hbl⟩, fun D hD => lc_list (K := K) (a := bl) (xs := fs.map fun f => V.ref f.b) (fun i H' => Same H1 H' ∧ ∃ gs : List Fp, gs.length = i ∧ H' D = some (.lst (gs.map fun f => V.ref f.b)) ∧ Paired (BxF K H') gs (W.cur.boxes.take i) ∧ (∀ a ∈ foots gs, H1 a = none ∧ a ≠ D) ∧ (foots gs).Nodup)
      ⟨same_new hD, [], rfl, upd_same, .nil, (fun a ha => by cases ha), List.nodup_nil⟩ (fun i H' _ p => SqL.of (p.1 _ _ hF1.hbl)) ?_ ?_⟩
    · rintro i y H3 hi ⟨s3, gs, hfl, hD3, hp, hn, hnd⟩
      obtain ⟨f, S, hf, hS2, rfl, hb⟩ := snap_bx hF1 hi
      refine ⟨rfl, ?_⟩
      have hb3 := hb.same s3
      obtain ⟨db, hbx⟩ := hb3.hb
      have hi12 : i < 12 := Nat.lt_of_lt_of_le (List.getElem?_eq_some_iff.mp hS2).1 h12
      refine ⟨_, rfl, f.b, db, _, rfl, hbx, rfl, f, S, rfl, hb3, fun H4 g s4 hb4 n4 => ?_⟩
      have hD4 := s4 _ _ hD3
      have keep : ∀ {f : Fp} {S : BoxS}, (∀ a ∈ f.all, a ≠ D) → BxF K H4 f S → BxF K (upd H4 D (.lst ((gs.map fun f => V.ref f.b) ++ [.ref g.b]))) f S := fun {f S} n hb => hb.but ((But.refl [D] H4).put (.inr (by simp))) fun a ha => by simpa using n a ha
      have nD : ∀ a ∈ g.all, a ≠ D := fun a ha z => by
        have := n4 a ha
        rw [z, hD3] at this
        cases this
      refine ⟨_, hD4, by rw [List.length_map, hfl]; exact lt_line (by omega), same_upd (s3.trans s4) hD, gs ++ [g], by rw [List.length_append, hfl]; rfl, by rw [upd_same, List.map_append]; rfl, ?_, fun a ha => ?_, ?_⟩
      · rw [take_more hS2]
        exact Paired.snoc (paired_map (fun f S hf hb => keep (fun a ha => (hn a (foots_mem hf ha)).2) (hb.same s4)) hp) (keep nD hb4)
      · rw [foots_app] at ha
        rcases List.mem_append.mp ha with ha | ha
        · exact hn a ha
        · have ha : a ∈ g.all := by simpa [foots] using ha
          exact ⟨s3.free (n4 a ha), nD a ha⟩
      · rw [foots_app]
        refine List.nodup_append.mpr ⟨hnd, by simpa [foots] using hb4.nd, fun a ha c hc e => ?_⟩
        have hc : c ∈ g.all := by simpa [foots] using hc
        obtain ⟨f2, hf2, ha2⟩ := List.mem_flatMap.mp ha
        obtain ⟨j, hj⟩ := List.mem_iff_getElem?.mp hf2
        obtain ⟨S2, _, hb2⟩ := paired_at hp hj
        obtain ⟨o, ho⟩ := hb2.live a ha2
        rw [e, n4 c hc] at ho
        cases ho
    · rintro H3 ⟨s3, gs, hfl, hD3, hp, hn, hnd⟩
      rw [List.length_map, hF.hfs.length, List.take_length] at hp
      have hx3 := s3 _ _ hx1
      have hp3 := s3 _ _ hp1
      have nxD : x ≠ D := ne_of_none hx1 hD
      have npD : pl ≠ D := ne_of_none hp1 hD
      refine ⟨_, rfl, x, _, dx, _, rfl, hx3, T.cl_Wall, T.no_Wall__boxes, (by show 5 < 1000; decide), ?_⟩
      have c4 : But [x] H3 (upd H3 x (.ins (He.ga K "Wall") dx (wlf k sz D gl pl))) := (But.refl _ _).put (.inr (by simp))
      have hx4 : upd H3 x (.ins (He.ga K "Wall") dx (wlf k sz D gl pl)) x = some (.ins (He.ga K "Wall") dx (wlf k sz D gl pl)) := upd_same
      have b4 : But [x, pl] H (upd H3 x (.ins (He.ga K "Wall") dx (wlf k sz D gl pl))) := (b1.trans (But.of s3)).put (.inr (by simp))
      have d4 : But [x, pl] H1 (upd H3 x (.ins (He.ga K "Wall") dx (wlf k sz D gl pl))) := (But.of s3).put (.inr (by simp))
      show Ends.nx _ _ (upd H3 x (.ins (He.ga K "Wall") dx (wlf k sz D gl pl)))
      generalize upd H3 x (.ins (He.ga K "Wall") dx (wlf k sz D gl pl)) = H4 at c4 hx4 b4 d4 ⊢
      have one : ∀ {a : Addr}, a ≠ x → a ∉ [x] := fun {a} n => by simpa using n
      have hp4 := c4 _ _ (one npx) hp3
      have hD4 := c4 _ _ (one nxD.symm) hD3
      have hF4 := hF.mut muts b4
      -- self._given = list(self._given)
      refine ⟨_, rfl, x, _, dx, _, _, rfl, hx4, T.cl_Wall, T.no_Wall__given, rfl, gl, _, rfl, .inl (SqL.of hF4.hgl), fun G hG => ?_⟩
      have nxG : x ≠ G := ne_of_none hx4 hG
      have npG : pl ≠ G := ne_of_none hp4 hG
      have nDG : D ≠ G := ne_of_none hD4 hG
      refine ⟨_, rfl, x, _, dx, _, rfl, (upd_ne nxG).trans hx4, T.cl_Wall, T.no_Wall__given, (by show 5 < 1000; decide), ?_⟩
      have c5 : But [x] H4 (upd (upd H4 G (.lst (W.cur.given.map giV))) x (.ins (He.ga K "Wall") dx (wlf k sz D G pl))) := (But.of (same_new hG)).put (.inr (by simp))
      have b5 := b4.trans (c5.mono (fun a h => by rw [List.mem_singleton.mp h]; simp) : But [x, pl] H4 _)
      have d5 := d4.trans (c5.mono (fun a h => by rw [List.mem_singleton.mp h]; simp) : But [x, pl] H4 _)
      have zD : H D = none := fr1 hD
      have zG : H1 G = none := d4.none (fun z => by
        simp only [List.mem_cons, List.not_mem_nil, or_false] at z
        rcases z with rfl | rfl
        · exact nxG rfl
        · exact npG rfl) hG
      have hx5 : upd (upd H4 G (.lst (W.cur.given.map giV))) x (.ins (He.ga K "Wall") dx (wlf k sz D G pl)) x = some (.ins (He.ga K "Wall") dx (wlf k sz D G pl)) := upd_same
      have hG5 : upd (upd H4 G (.lst (W.cur.given.map giV))) x (.ins (He.ga K "Wall") dx (wlf k sz D G pl)) G = some (.lst (W.cur.given.map giV)) := (upd_ne nxG.symm).trans upd_same
      show Ends.nx _ _ (upd (upd H4 G (.lst (W.cur.given.map giV))) x (.ins (He.ga K "Wall") dx (wlf k sz D G pl)))
      generalize upd (upd H4 G (.lst (W.cur.given.map giV))) x (.ins (He.ga K "Wall") dx (wlf k sz D G pl)) = H5 at c5 b5 d5 hx5 hG5 ⊢
      have fx : ∀ a ∈ foots gs, a ≠ x := fun a ha z => by
        have := (hn a ha).1
        rw [z, hx1] at this
        cases this
      have hp5 : Paired (BxF K H5) gs W.cur.boxes := paired_map (fun f S hf hb => (hb.but c4 fun a ha => one (fx a (foots_mem hf ha))).but c5 fun a ha => one (fx a (foots_mem hf ha))) hp
      have foots_live : ∀ a ∈ foots gs, ∃ o, H4 a = some o := fun a ha => by
        obtain ⟨f2, hf2, ha2⟩ := List.mem_flatMap.mp ha
        obtain ⟨j, hj⟩ := List.mem_iff_getElem?.mp hf2
        obtain ⟨S2, _, hb2⟩ := paired_at hp hj
        exact (hb2.but c4 fun c hc => one (fx c (foots_mem hf2 hc))).live a ha2
      have newall : ∀ a ∈ D :: G :: foots gs, H a = none := fun a ha => by
        simp only [List.mem_cons] at ha
        rcases ha with rfl | rfl | ha
        · exact zD
        · exact fr1 zG
        · exact fr1 (hn a ha).1
      have bh : But [x, pl] H (hideF (D :: G :: foots gs) H5) := fun c o n e => hide_some (fun z => by rw [newall c z] at e; cases e) (b5 c o n e)
      have ownN : ∀ {a : Addr} {o : HO}, H1 a = some o → a ∉ D :: G :: foots gs := fun {a o} e z => by
        simp only [List.mem_cons] at z
        rcases z with rfl | rfl | z
        · rw [hD] at e; cases e
        · rw [zG] at e; cases e
        · rw [(hn a z).1] at e; cases e
      have hp5' := c5 _ _ (one npx) hp4
      refine q H5 dx k sz D G gs (xs ++ [.ref t]) ⟨b5, hide_some (ownN hx1) hx5, mut_tup muts bh hS, mut_book muts bh hF.book, hF.good, hide_some (ownN hp1) hp5', ?_, hin, c5 _ _ (one nxD.symm) hD4, hG5, hp5, fun a ha => live_of live (newall a ?_), newall, ?_⟩
      · refine Paired.snoc (paired_map (fun _ _ _ z => z.mut muts bh) hxs) ⟨t, k, bl, gl, rfl, SqT.of (hide_some (ownN ht1) (d5 _ _ (fun z => ?_) ht1)), fs, hF.mut muts bh⟩
        simp only [List.mem_cons, List.not_mem_nil, or_false] at z
        rcases z with rfl | rfl
        · exact nxt rfl
        · exact npt rfl
      · simp only [List.mem_cons, List.mem_map] at ha ⊢
        rcases ha with rfl | rfl | ⟨f, hf, rfl⟩
        · exact .inl rfl
        · exact .inr (.inl rfl)
        · exact .inr (.inr (foots_mem hf (by simp [Fp.all])))
      · refine List.nodup_cons.mpr ⟨fun z => ?_, List.nodup_cons.mpr ⟨fun z => ?_, hnd⟩⟩
        · rcases List.mem_cons.mp z with z | z
          · exact nDG z
          · exact (hn D z).2 rfl
        · obtain ⟨o, ho⟩ := foots_live G z
          rw [hG] at ho
          cases ho
theorem c_Wall_remember (T : Txt w K mg) : C8.Met P w K mg base 4 (He.ga K "Wall") "_remember" (sp_Wall_remember K) [] := by
  obtain ⟨fd, F⟩ := T.f_Wall_remember
  exact ⟨_, fd, _, _, T.cl_Wall, T.m_Wall_remember, ok_Wall_remember T F, F.bindsN (fun _ _ _ _ _ _ us hl => match us, hl with | [_], _ => rfl), .nil⟩
end
end K67

namespace K67
open PySem PySem.Spec PyProof.Rows L2 My
/-! ### where a parcel fits -/
def fitsB (sizes : List Int) (boxes : List BoxS) (size : Int) (i : Nat) : Bool := decide ((boxes[i]?.map fun S => S.tf) = some ("free" : Str)) && decide (size ≤ sizes.getD i 0)
def fitL (sizes : List Int) (boxes : List BoxS) (size : Int) (n : Nat) : List Nat := (List.range n).filter (fitsB sizes boxes size)
def lessF (sizes : List Int) (best : Option Nat) (i : Nat) : Option Nat := match best with
  | none => some i
  | some j => if sizes.getD i 0 < sizes.getD j 0 then some i else some j
def placeF (sizes : List Int) (boxes : List BoxS) (size : Int) : Option Nat := (fitL sizes boxes size boxes.length).foldl (lessF sizes) none
theorem fitL_succ (sizes : List Int) (boxes : List BoxS) (size : Int) (n : Nat) : fitL sizes boxes size (n + 1) = fitL sizes boxes size n ++ (if fitsB sizes boxes size n = true then [n] else []) := by
  unfold fitL
  rw [List.range_succ, List.filter_append]
  congr 1
  by_cases c : fitsB sizes boxes size n = true
  · rw [if_pos c, List.filter_cons, if_pos c]; rfl
  · rw [if_neg c, List.filter_cons, if_neg c]; rfl
theorem fitL_lt {sizes : List Int} {boxes : List BoxS} {size : Int} {n : Nat} : (fitL sizes boxes size n).Pairwise (· < ·) := List.Pairwise.filter _ List.pairwise_lt_range
theorem fitL_le (sizes : List Int) (boxes : List BoxS) (size : Int) (n : Nat) : (fitL sizes boxes size n).length ≤ n := by
  have h := List.length_filter_le (fitsB sizes boxes size) (List.range n)
  rw [List.length_range] at h
  exact h
def keyF (sizes : List Int) (i : Nat) : List Int := [sizes.getD i 0, (i : Int)]
theorem keyF_lt {sizes : List Int} {i j : Nat} (h : j < i) : HT.lexLt (keyF sizes i) (keyF sizes j) = decide (sizes.getD i 0 < sizes.getD j 0) := by
  unfold keyF
  rw [HT.lexLt_cons]
  by_cases c : sizes.getD i 0 = sizes.getD j 0
  · rw [if_pos c, HT.lexLt_cons, if_neg (by omega), decide_eq_false (by omega), decide_eq_false (by omega)]
  · rw [if_neg c]
/-- the least pair of the list is the place -/
theorem best_fold {sizes : List Int} {l : List Nat} (asc : l.Pairwise (· < ·)) : ∀ k, k < l.length → ∃ m, m ≤ k ∧ argBest (fun i j => HT.lexLt ((l.map (keyF sizes)).getD i []) ((l.map (keyF sizes)).getD j [])) k = m ∧ (l.take (k + 1)).foldl (lessF sizes) none = l[m]?
  | 0, h => ⟨0, Nat.le_refl _, rfl, by
    obtain ⟨a, r, rfl⟩ : ∃ a r, l = a :: r := by
      cases l with
      | nil => cases h
      | cons a r => exact ⟨a, r, rfl⟩
    rfl⟩
  | k + 1, h => by
    obtain ⟨m, hm, e1, e2⟩ := best_fold asc k (by omega)
    have hk : l[k + 1]? = some l[k + 1] := List.getElem?_eq_getElem h
    have hmm : l[m]? = some l[m] := List.getElem?_eq_getElem (by omega)
    have lt : l[m] < l[k + 1] := List.pairwise_iff_getElem.mp asc m (k + 1) (by omega) h (by omega)
    have g : ∀ i, (hi : i < l.length) → (l.map (keyF sizes)).getD i [] = keyF sizes l[i] := fun i hi => by
      rw [List.getD_eq_getElem?_getD, List.getElem?_map, List.getElem?_eq_getElem hi]
      rfl
    have e3 : argBest (fun i j => HT.lexLt ((l.map (keyF sizes)).getD i []) ((l.map (keyF sizes)).getD j [])) (k + 1) = if HT.lexLt ((l.map (keyF sizes)).getD (k + 1) []) ((l.map (keyF sizes)).getD m []) = true then k + 1 else m := by
      conv => lhs; unfold argBest
      rw [e1]
    rw [g (k + 1) h, g m (by omega), keyF_lt lt] at e3
    have e4 : (l.take (k + 1 + 1)).foldl (lessF sizes) none = lessF sizes (some l[m]) l[k + 1] := by
      rw [take_more hk, List.foldl_append, e2, hmm]
      rfl
    rw [e3, e4]
    unfold lessF
    by_cases c : sizes.getD l[k + 1] 0 < sizes.getD l[m] 0
    · refine ⟨k + 1, Nat.le_refl _, by rw [if_pos (decide_eq_true c)], ?_⟩
      show (if sizes.getD l[k + 1] 0 < sizes.getD l[m] 0 then some l[k + 1] else some l[m]) = _
      rw [if_pos c, hk]
    · refine ⟨m, by omega, by rw [if_neg (by simpa using c)], ?_⟩
      show (if sizes.getD l[k + 1] 0 < sizes.getD l[m] 0 then some l[k + 1] else some l[m]) = _
      rw [if_neg c, hmm]
section
variable {P : Program} {w : World} {K : PySem.W.Frag} {mg : Str → Option Value} {base : Heap}
def sp_Wall_fitting (K : PySem.W.Frag) : Sp := fun vs H Q _ => ∃ (x pl : Addr) (as : List Addr) (W : WallS) (size : Int), vs = [.ref x, .int size] ∧ WallAt K as H x pl W ∧ W.sizes.length = W.cur.boxes.length ∧ W.cur.boxes.length ≤ 12 ∧ ∀ H', Same H H' → Q (giV (placeF W.sizes W.cur.boxes size)) H'
set_option maxHeartbeats 2000000 in
theorem ok_Wall_fitting (T : Txt w K mg) {fd : FuncData} (F : FunD K d_Wall_fitting.name d_Wall_fitting.qual d_Wall_fitting.params d_Wall_fitting.body d_Wall_fitting.scope (d_Wall_fitting.dvs K) (d_Wall_fitting.kws K) (He.fAd K d_Wall_fitting.at_) fd) : FnOk P w K mg base C8.CX0 1 (He.fAd K d_Wall_fitting.at_) fd ["self", "size"] (sp_Wall_fitting K) := by
  refine F.ok sc_Wall_fitting (fun vs H Q E h => ?_) (fun cdv A outer s H vs Q E hr h => ?_)
  · obtain ⟨x, pl, as, W, size, rfl, _⟩ := h
    rfl
  · have hu := L2.hu_of hr
    obtain ⟨x, pl, as, W, size, rfl, hW, hlen, h12, q⟩ := h
    obtain ⟨dx, k, sz, bl, gl, xs, hx, hS, ⟨fs, hF⟩, hpl, hxs, hin⟩ := id hW
    refine ⟨_, (PSs.nox ((pss_cons (ps_set (i := 2) sc_Wall_fitting.nd rfl (by first | exact Or.inl rfl | exact Or.inr rfl) (pe_lst pa_nil))
  (pss_cons (ps_for PassesOwn.never rfl (pi_enum (by rfl) T.enumerate (pa_cons (My.pe_fldK (K := K) rfl (pv 0) rfl) pa_nil)) (My.pg_tupK (K := K) (n := 2) rfl rfl (pgs_cons (pg_name (i := 3) sc_Wall_fitting.nd rfl (by first | exact Or.inl rfl | exact Or.inr rfl)) (pgs_cons (pg_name (i := 4) sc_Wall_fitting.nd rfl (by first | exact Or.inl rfl | exact Or.inr rfl)) pgs_nil)))
  (pss_one (ps_if (PW.pt (pw_and (pt_cmpR op_eq (My.pe_fldK (K := K) rfl (pv 4) rfl) pe_str (nomark _)) (pw_and1 (pt_cmpR op_ge (pe_ix (My.ix_tupK (K := K) rfl) (My.pe_fldK (K := K) rfl (pv 0) rfl) (pv 3) (fun _ _ => rfl)) (pv 1) (nomark _)))))
  (pss_one (ps_expr (My.pe_bmK (K := K) rfl PySem.F.plainAttrs_list PySem.F.slot_list_append PySem.F.type_list_append mt_append (pv 2) (pa_cons (pe_tup (pa_cons (pe_ix (My.ix_tupK (K := K) rfl) (My.pe_fldK (K := K) rfl (pv 0) rfl) (pv 3) (fun _ _ => rfl)) (pa_cons (pv 3) pa_nil))) pa_nil))))
  pss_nil)))
  (pss_cons (ps_if (pt_not (My.pt_truthK (K := K) rfl (pv 2) (by intro _; rfl)))
  (pss_one (ps_ret pe_non))
  pss_nil)
  (pss_one (ps_ret (pe_ix (My.ix_tupK (K := K) rfl) (pe_callB (My.min_tupsK (K := K) rfl rfl hr.units) (by rfl) T.min (by decide +kernel) (pa_cons (pv 2) pa_nil)) pe_int (fun _ _ => rfl))))))))), ?_⟩
    refine ⟨Nat.zero_le _, fun L nL => ?_⟩
    have yL := same_new (o := .lst []) nL
    refine ⟨_, rfl, x, _, dx, _, _, rfl, yL _ _ hx, T.cl_Wall, T.no_Wall__boxes, rfl, bl, _, rfl, SqL.of (yL _ _ hF.hbl), ?_⟩
    refine for_it (walk_enum (xs := fs.map fun f => V.ref f.b)) (fun i σ H' => ∃ u v, σ = [some (.ref x), some (.int size), some (.ref L), u, v] ∧ Same H H' ∧ ∃ ts : List Addr, H' L = some (.lst (ts.map V.ref)) ∧ Paired (fun a (ns : List Int) => SqT K H' a (ns.map V.int)) ts ((fitL W.sizes W.cur.boxes size i).map (keyF W.sizes))) ⟨_, _, rfl, yL, [], upd_same, .nil⟩ (fun i σ H' _ ⟨_, _, _, s, _⟩ => SqL.of (s _ _ hF.hbl)) ?_ ?_
    · rintro i y σ H2 H3 hi ⟨u, v, rfl, s2, ts, hL2, hp⟩ ⟨t, x1, z, rfl, ht, rfl, e1, hy⟩
      cases e1
      obtain ⟨f, S, hf, hSi, rfl, hb⟩ := snap_bx hF hy
      have sT := same_new (o := .tup [.int (i : Nat), .ref f.b]) ht
      have s3 := s2.trans sT
      refine ⟨t, _, rfl, SqT.of upd_same, rfl, _, _, rfl, _, _, rfl, rfl, ?_⟩
      have hL3 := sT _ _ hL2
      have hp3 := paired_map (fun _ _ _ h => same_tup sT h) hp
      obtain ⟨db, hbx⟩ := hb.hb
      have hlt : i < W.sizes.length := by rw [hlen]; exact (List.getElem?_eq_some_iff.mp hSi).1
      have hsz : (W.sizes.map V.int)[i]? = some (.int (W.sizes.getD i 0)) := by
        rw [List.getElem?_map, List.getElem?_eq_getElem hlt, List.getD_eq_getElem?_getD, List.getElem?_eq_getElem hlt]
        rfl
      have hS3 := same_tup s3 hS
      have skip : fitsB W.sizes W.cur.boxes size i = false → ∃ u v, ([some (.ref x), some (.int size), some (.ref L), some (.int (i : Nat)), some (.ref f.b)] : L2.St) = [some (.ref x), some (.int size), some (.ref L), u, v] ∧ Same H (upd H2 t (.tup [.int (i : Nat), .ref f.b])) ∧ ∃ ts : List Addr, upd H2 t (.tup [.int (i : Nat), .ref f.b]) L = some (.lst (ts.map V.ref)) ∧ Paired (fun a (ns : List Int) => SqT K (upd H2 t (.tup [.int (i : Nat), .ref f.b])) a (ns.map V.int)) ts ((fitL W.sizes W.cur.boxes size (i + 1)).map (keyF W.sizes)) := fun c => by
        refine ⟨_, _, rfl, s3, ts, hL3, ?_⟩
        rw [fitL_succ, c, if_neg Bool.false_ne_true, List.append_nil]
        exact hp3
      refine ⟨_, rfl, f.b, _, db, _, _, rfl, s3 _ _ hbx, T.cl_Box, T.no_Box_taken_for, rfl, rfl, _, rfl, ?_⟩
      by_cases c1 : S.tf = "free"
      · rw [str_eqT c1]
        refine L2.iteT ?_
        refine ⟨_, rfl, x, _, dx, _, _, rfl, s3 _ _ hx, T.cl_Wall, T.no_Wall__sizes, rfl, _, rfl, sz, _, _, _, rfl, rfl, hS3, atI_nat hsz, _, rfl, _, _, rfl, rfl, _, rfl, ?_⟩
        by_cases c2 : size ≤ W.sizes.getD i 0
        · rw [decide_eq_true c2]
          refine L2.iteT ?_
          refine ⟨_, rfl, .inl ⟨rfl, _, SqL.of hL3⟩, _, rfl, x, _, dx, _, _, rfl, s3 _ _ hx, T.cl_Wall, T.no_Wall__sizes, rfl, _, rfl, sz, _, _, _, rfl, rfl, hS3, atI_nat hsz, _, rfl, by show 2 ≤ sizeLine; decide, fun e he => ?_⟩
          have se := same_new (o := .tup [.int (W.sizes.getD i 0), .int (i : Nat)]) he
          have nLe : L ≠ e := ne_of_none hL3 he
          have hlen3 : ts.length ≤ 12 := by
            rw [hp.length, List.length_map]
            have h1 := fitL_le W.sizes W.cur.boxes size i
            omega
          refine ⟨L, _, _, rfl, rfl, se _ _ hL3, by rw [List.length_map]; exact lt_line (by omega), _, _, rfl, ?_, ts ++ [e], by rw [upd_same, List.map_append]; rfl, ?_⟩
          · exact same_upd (s3.trans se) nL
          · have c : fitsB W.sizes W.cur.boxes size i = true := by
              unfold fitsB
              rw [hSi]
              show (decide (some S.tf = some ("free" : Str)) && decide (size ≤ W.sizes.getD i 0)) = true
              rw [c1, decide_eq_true rfl, decide_eq_true c2]
              rfl
            rw [fitL_succ, c, if_pos rfl, List.map_append]
            have hLe : ∀ {a : Addr} {l : List V}, SqT K (upd (upd H2 t (.tup [.int (i : Nat), .ref f.b])) e (.tup [.int (W.sizes.getD i 0), .int (i : Nat)])) a l → SqT K (upd (upd (upd H2 t (.tup [.int (i : Nat), .ref f.b])) e (.tup [.int (W.sizes.getD i 0), .int (i : Nat)])) L (.lst (ts.map V.ref ++ [.ref e]))) a l := fun h => tupU (se _ _ hL3) h
            exact Paired.snoc (paired_map (fun _ _ _ h => hLe (same_tup se h)) hp3) (hLe (SqT.of upd_same))
        · rw [decide_eq_false c2]
          refine L2.iteF (skip ?_)
          unfold fitsB
          rw [decide_eq_false c2, Bool.and_false]
      · rw [str_eqF c1]
        refine L2.iteF (skip ?_)
        unfold fitsB
        rw [hSi]
        show (decide (some S.tf = some ("free" : Str)) && _) = false
        rw [decide_eq_false (fun z => c1 (Option.some.inj z)), Bool.false_and]
    · rintro σ H2 ⟨u, v, rfl, s2, ts, hL2, hp⟩
      rw [List.length_map, hF.hfs.length] at hp
      refine ⟨_, rfl, !(ts.map V.ref).isEmpty, .inl ⟨_, SqL.of hL2, rfl⟩, ?_⟩
      have hl := hp.length
      rw [List.length_map] at hl
      cases el : fitL W.sizes W.cur.boxes size W.cur.boxes.length with
      | nil =>
        rw [el] at hl
        obtain rfl : ts = [] := List.eq_nil_of_length_eq_zero hl
        have e : placeF W.sizes W.cur.boxes size = none := by unfold placeF; rw [el]; rfl
        rw [e] at q
        exact L2.iteT (q _ s2)
      | cons i0 r =>
        have pos : 0 < (fitL W.sizes W.cur.boxes size W.cur.boxes.length).length := by rw [el]; exact Nat.succ_pos _
        have ne : (!(ts.map V.ref).isEmpty) = true := by
          cases ts with
          | nil => rw [← hl] at pos; cases pos
          | cons a b => rfl
        rw [ne]
        refine L2.iteF ?_
        refine ⟨_, rfl, L, ts, _, rfl, SqL.of hL2, hp, by rw [List.length_map]; exact pos, fun a m hm ham em => ?_⟩
        rw [List.length_map] at hm em
        obtain ⟨m2, hm2, e1, e2⟩ := best_fold (sizes := W.sizes) fitL_lt ((fitL W.sizes W.cur.boxes size W.cur.boxes.length).length - 1) (Nat.sub_lt pos (Nat.succ_pos 0))
        have em2 : m = m2 := em.trans e1
        subst em2
        rw [Nat.sub_add_cancel pos, List.take_length] at e2
        have hp0 : placeF W.sizes W.cur.boxes size = (fitL W.sizes W.cur.boxes size W.cur.boxes.length)[m]? := e2
        have hmv : (fitL W.sizes W.cur.boxes size W.cur.boxes.length)[m]? = some (fitL W.sizes W.cur.boxes size W.cur.boxes.length)[m] := List.getElem?_eq_getElem hm
        obtain ⟨ns, hns, hT⟩ := paired_at hp ham
        rw [List.getElem?_map, hmv] at hns
        have en : ns = keyF W.sizes (fitL W.sizes W.cur.boxes size W.cur.boxes.length)[m] := (Option.some.inj hns).symm
        rw [en] at hT
        rw [hp0, hmv] at q
        exact ⟨a, _, _, _, rfl, rfl, hT, rfl, q _ s2⟩
theorem c_Wall_fitting (T : Txt w K mg) : C8.Met P w K mg base 1 (He.ga K "Wall") "_fitting" (sp_Wall_fitting K) [] := by
  obtain ⟨fd, F⟩ := T.f_Wall_fitting
  exact ⟨_, fd, _, _, T.cl_Wall, T.m_Wall_fitting, ok_Wall_fitting T F, F.bindsN (fun _ _ _ _ _ _ us hl => match us, hl with | [_, _], _ => rfl), .nil⟩
end
end K67

namespace K67
open PySem PySem.Spec PyProof.Rows L2 My
theorem paired_mid {α β : Type} {F : α → β → Prop} {f : α} {B : List α} : ∀ {A : List α} {m : List β}, Paired F (A ++ f :: B) m → ∃ A' S B', m = A' ++ S :: B' ∧ Paired F A A' ∧ F f S ∧ Paired F B B'
  | [], _, .cons r t => ⟨[], _, _, rfl, .nil, r, t⟩
  | a :: A, _, .cons r t => by
    obtain ⟨A', S, B', e, h1, h2, h3⟩ := paired_mid (A := A) t
    exact ⟨_ :: A', S, B', by rw [e]; rfl, .cons r h1, h2, h3⟩
theorem split_at {α : Type} {l : List α} {i : Nat} {f : α} (h : l[i]? = some f) : ∃ A B, l = A ++ f :: B ∧ A.length = i := by
  induction l generalizing i with
  | nil => cases h
  | cons a l ih =>
    cases i with
    | zero =>
      cases h
      exact ⟨[], l, rfl, rfl⟩
    | succ i =>
      obtain ⟨A, B, e, el⟩ := ih h
      exact ⟨a :: A, B, by rw [e]; rfl, by rw [← el]; rfl⟩
theorem set_mid {α : Type} {A B : List α} {f g : α} : (A ++ f :: B).set A.length g = A ++ g :: B := by
  induction A with
  | nil => rfl
  | cons a A ih => exact congrArg _ ih
theorem foots_mid (A B : List Fp) (f : Fp) : foots (A ++ f :: B) = foots A ++ (f.all ++ foots B) := by
  rw [foots_app]
  rfl
def setBox (W : WallS) (i : Nat) (S : BoxS) : WallS := ⟨W.sizes, ⟨W.cur.d, W.cur.rs, W.cur.boxes.set i S, W.cur.given⟩, W.past⟩
theorem WorkAt.fresh {K : PySem.W.Frag} {as : List Addr} {H0 H : Hp} {x pl dx k sz bl gl : Addr} {fs : List Fp} {xs : List V} {W : WallS} (h : WorkAt K as H0 H x pl dx k sz bl gl fs xs W) {c : Addr} (n : H c = none ∨ c ∈ bl :: gl :: foots fs) : H0 c = none := by
  rcases n with n | n
  · have e := hide_same (bl :: gl :: foots fs) H
    refine h.but.none (fun z => ?_) n
    simp only [List.mem_cons, List.not_mem_nil, or_false] at z
    rcases z with rfl | rfl
    · rw [e _ _ h.hx] at n; cases n
    · rw [e _ _ h.hpl] at n; cases n
  · exact h.new c n
theorem WorkAt.beside {K : PySem.W.Frag} {as : List Addr} {H0 H : Hp} {x pl dx k sz bl gl : Addr} {fs : List Fp} {xs : List V} {W : WallS} (h : WorkAt K as H0 H x pl dx k sz bl gl fs xs W) (live : ∀ a ∈ as, H0 a ≠ none) : ∀ a ∈ as, hideF (bl :: gl :: foots fs) H a ≠ none := fun a ha e => by
  by_cases z : a ∈ [x, pl]
  · simp only [List.mem_cons, List.not_mem_nil, or_false] at z
    rcases z with z | z
    · rw [z, h.hx] at e; cases e
    · rw [z, h.hpl] at e; cases e
  · cases e0 : H0 a with
    | none => exact live a ha e0
    | some o =>
      rw [hide_some (fun y => live a ha (h.new a y)) (h.but a o z e0)] at e
      cases e
/-- a deed at one of the boxes -/
theorem SnapF.moreX {K : PySem.W.Frag} {as : List Addr} {H : Hp} {L k bl gl : Addr} {fs : List Fp} {s : SnapS} (n : H L = none) (h : SnapF K as H k bl gl fs s) : SnapF K (L :: as) H k bl gl fs s := by
  refine ⟨h.book, h.good, h.hbl, h.hfs, h.hgl, fun a ha z => ?_⟩
  rcases List.mem_cons.mp z with z | z
  · simp only [List.mem_cons, List.mem_map] at ha
    rcases ha with y | y | ⟨f, hf, y⟩
    · rw [← z, y, h.hbl] at n; cases n
    · rw [← z, y, h.hgl] at n; cases n
    · obtain ⟨i, hi⟩ := List.mem_iff_getElem?.mp hf
      obtain ⟨S, _, hb⟩ := paired_at h.hfs hi
      rw [← z, ← y, hb.hli] at n; cases n
  · exact h.out a ha z
theorem PastAt.moreX {K : PySem.W.Frag} {as : List Addr} {H : Hp} {L : Addr} {v : V} {s : SnapS} (n : H L = none) (h : PastAt K as H v s) : PastAt K (L :: as) H v s := by
  obtain ⟨t, k, bl, gl, e, h1, fs, h2⟩ := h
  exact ⟨t, k, bl, gl, e, h1, fs, h2.moreX n⟩
theorem hide_noneB {as bs : List Addr} {H : Hp} {c : Addr} (m : ∀ a ∈ as, a ∈ bs) (n : hideF as H c = none) : hideF bs H c = none := by
  cases e : hideF bs H c with
  | none => rfl
  | some o =>
    have z := hide_some (fun y => hide_in e (m c y)) (hide_same _ _ _ _ e)
    rw [n] at z
    cases z
/-- what is told stands apart from the wall -/
theorem WorkAt.apart {K : PySem.W.Frag} {as O : List Addr} {H0 H H' : Hp} {L x pl dx k sz bl gl : Addr} {fs : List Fp} {xs : List V} {W : WallS} (h : WorkAt K as H0 H' x pl dx k sz bl gl fs xs W) (hp : Paired (PastAt K as (hideF O H)) xs W.past) (nL : hideF O H L = none) (hid : Same (hideF O H) (hideF (bl :: gl :: foots fs) H')) (ap : ∀ a ∈ bl :: gl :: foots fs, a ≠ L) : WorkAt K (L :: as) H0 H' x pl dx k sz bl gl fs xs W :=
  ⟨h.but, h.hx, h.hsz, h.book, h.good, h.hpl, paired_map (fun _ _ _ z => PastAt.same hid (PastAt.moreX nL z)) hp, List.mem_cons_of_mem _ h.pin, h.hbl, h.hgl, h.hfs, fun a ha z => by
    rcases List.mem_cons.mp z with z | z
    · refine ap a ?_ z
      simp only [List.mem_cons, List.mem_map] at ha ⊢
      rcases ha with y | y | ⟨f, hf, y⟩
      · exact .inl y
      · exact .inr (.inl y)
      · exact .inr (.inr (foots_mem hf (by rw [← y]; simp [Fp.all])))
    · exact h.out a ha z, h.new, h.nd⟩
theorem WorkAt.op {K : PySem.W.Frag} {as : List Addr} {H0 H H' : Hp} {x pl dx k sz bl gl t : Addr} {fs : List Fp} {xs : List V} {W : WallS} {i : Nat} {f : Fp} {S : BoxS} {r : BoxS × ToldS} (side : ∀ a ∈ as, hideF (bl :: gl :: foots fs) H a ≠ none)
    (h : WorkAt K as H0 H x pl dx k sz bl gl fs xs W) (hf : fs[i]? = some f) (hS : W.cur.boxes[i]? = some S) (hb : BTx K (hideF f.all H) H' f.b t r) :
    ∃ (fs' : List Fp) (ll lg : Addr), WorkAt K as H0 H' x pl dx k sz bl gl fs' xs (setBox W i r.1) ∧ TdF K H' t ll lg r.2 ∧ H0 t = none ∧ H0 ll = none ∧ H0 lg = none ∧ ll ≠ lg ∧ (∀ a ∈ bl :: gl :: foots fs', a ≠ t ∧ a ≠ ll ∧ a ≠ lg) ∧ (fs'.map fun f => V.ref f.b) = (fs.map fun f => V.ref f.b) ∧ Same (hideF (bl :: gl :: foots fs) H) (hideF (bl :: gl :: foots fs') H') ∧ hideF (bl :: gl :: foots fs) H ll = none ∧ hideF (bl :: gl :: foots fs) H lg = none := by
  obtain ⟨A, B, rfl, rfl⟩ := split_at hf
  have same := hb.same
  obtain ⟨f', ll, lg, eb, hbx, hnew, htd, nt, nll, nlg, nlr, apart⟩ := hb.back
  obtain ⟨A', S2, B', eW, pA, pf, pB⟩ := paired_mid h.hfs
  have elen : A'.length = A.length := pA.length.symm
  have stay : ∀ c o, c ∉ f.all → H c = some o → H' c = some o := fun c o n e => same _ _ (hide_some n e)
  have nd := h.nd
  rw [foots_mid] at nd
  obtain ⟨n1, nd2⟩ := List.nodup_cons.mp nd
  obtain ⟨n2, nd3⟩ := List.nodup_cons.mp nd2
  obtain ⟨ndA, ndR, dAR⟩ := List.nodup_append.mp nd3
  obtain ⟨ndf, ndB, dfB⟩ := List.nodup_append.mp ndR
  have inO : ∀ a ∈ f.all, a ∈ bl :: gl :: foots (A ++ f :: B) := fun a ha => by
    rw [foots_mid]
    simp only [List.mem_cons, List.mem_append]
    exact .inr (.inr (.inr (.inl ha)))
  have blf : bl ∉ f.all := fun z => n1 (by simp only [List.mem_cons, List.mem_append]; exact .inr (.inr (.inl z)))
  have glf : gl ∉ f.all := fun z => n2 (by simp only [List.mem_append]; exact .inr (.inl z))
  have Af : ∀ a ∈ foots A, a ∉ f.all := fun a ha z => dAR a ha a (List.mem_append_left _ z) rfl
  have Bf : ∀ a ∈ foots B, a ∉ f.all := fun a ha z => dfB a z a ha rfl
  have liveP : ∀ {F : List Fp} {M : List BoxS}, Paired (BxF K H) F M → ∀ a ∈ foots F, ∃ o, H a = some o := fun {F M} p a ha => by
    obtain ⟨g, hg, ha2⟩ := List.mem_flatMap.mp ha
    obtain ⟨j, hj⟩ := List.mem_iff_getElem?.mp hg
    obtain ⟨S3, _, hb3⟩ := paired_at p hj
    exact hb3.live a ha2
  -- all of these stand in the heap without the box
  have rest : ∀ a, a ∈ bl :: gl :: (foots A ++ foots B) → ∃ o, hideF f.all H a = some o := fun a ha => by
    simp only [List.mem_cons, List.mem_append] at ha
    rcases ha with rfl | rfl | ha | ha
    · exact ⟨_, hide_some blf h.hbl⟩
    · exact ⟨_, hide_some glf h.hgl⟩
    · obtain ⟨o, e⟩ := liveP pA a ha
      exact ⟨o, hide_some (Af a ha) e⟩
    · obtain ⟨o, e⟩ := liveP pB a ha
      exact ⟨o, hide_some (Bf a ha) e⟩
  have no : ∀ {c : Addr}, hideF f.all H c = none → c ∉ bl :: gl :: (foots A ++ foots B) := fun {c} n z => by
    obtain ⟨o, e⟩ := rest c z
    rw [n] at e
    cases e
  have fr : ∀ {c : Addr}, hideF f.all H c = none → H0 c = none := fun {c} n => by
    by_cases z : c ∈ f.all
    · exact h.fresh (.inr (inO c z))
    · refine h.fresh (.inl ?_)
      cases e : H c with
      | none => rfl
      | some o =>
        rw [hide_some z e] at n
        cases n
  have mem' : ∀ a, a ∈ bl :: gl :: foots (A ++ f' :: B) → a ∈ f'.all ∨ a ∈ bl :: gl :: (foots A ++ foots B) := fun a ha => by
    rw [foots_mid] at ha
    simp only [List.mem_cons, List.mem_append] at ha ⊢
    rcases ha with z | z | z | z | z
    · exact .inr (.inl z)
    · exact .inr (.inr (.inl z))
    · exact .inr (.inr (.inr (.inl z)))
    · exact .inl z
    · exact .inr (.inr (.inr (.inr z)))
  have own : ∀ a, a ∈ bl :: gl :: (foots A ++ foots B) → a ∈ bl :: gl :: foots (A ++ f :: B) := fun a ha => by
    rw [foots_mid]
    simp only [List.mem_cons, List.mem_append] at ha ⊢
    rcases ha with z | z | z | z
    · exact .inl z
    · exact .inr (.inl z)
    · exact .inr (.inr (.inl z))
    · exact .inr (.inr (.inr (.inr z)))
  have hid : Same (hideF (bl :: gl :: foots (A ++ f :: B)) H) (hideF (bl :: gl :: foots (A ++ f' :: B)) H') := fun c o e => by
    have nc := hide_in e
    have e2 := hide_same _ _ _ _ e
    have ncf : c ∉ f.all := fun z => nc (inO c z)
    refine hide_some (fun z => ?_) (stay c o ncf e2)
    rcases mem' c z with z | z
    · have := hnew c z
      rw [hide_some ncf e2] at this
      cases this
    · exact nc (own c z)
  have new' : ∀ a ∈ bl :: gl :: foots (A ++ f' :: B), H0 a = none := fun a ha => by
    rcases mem' a ha with z | z
    · exact fr (hnew a z)
    · exact h.fresh (.inr (own a z))
  have emap : ((A ++ f' :: B).map fun f => V.ref f.b) = (A ++ f :: B).map fun f => V.ref f.b := by
    rw [List.map_append, List.map_append, List.map_cons, List.map_cons, eb]
  have keep : ∀ {F : List Fp} {M : List BoxS}, (∀ a ∈ foots F, a ∉ f.all) → Paired (BxF K H) F M → Paired (BxF K H') F M := fun {F M} n p => paired_map (fun g S3 hg hb3 => hb3.but (as := f.all) (fun c o nc e => stay c o nc e) fun a ha => n a (foots_mem hg ha)) p
  have eset : W.cur.boxes.set A.length r.1 = A' ++ r.1 :: B' := by rw [eW, ← elen]; exact set_mid
  refine ⟨A ++ f' :: B, ll, lg, ⟨?_, hid _ _ h.hx, same_tup hid h.hsz, h.book.same hid, h.good, hid _ _ h.hpl, paired_map (fun _ _ _ z => z.same hid) h.past, h.pin, ?_, stay _ _ glf h.hgl, ?_, ?_, new', ?_⟩, htd, fr nt, fr nll, fr nlg, nlr, fun a ha => ?_, emap, hid, hide_noneB inO nll, hide_noneB inO nlg⟩
  · exact fun c o n e => stay c o (fun z => by
      have := h.new c (inO c z)
      rw [e] at this
      cases this) (h.but c o n e)
  · rw [emap]
    exact stay _ _ blf h.hbl
  · show Paired (BxF K H') (A ++ f' :: B) (W.cur.boxes.set A.length r.1)
    rw [eset]
    exact paired_app (keep Af pA) (.cons hbx (keep Bf pB))
  · intro a ha
    simp only [List.mem_cons, List.mem_map] at ha
    rcases ha with z | z | ⟨g, hg, z⟩
    · rw [z]; exact h.out _ (by simp)
    · rw [z]; exact h.out _ (by simp)
    · rcases List.mem_append.mp hg with hg | hg
      · exact h.out _ (by simp only [List.mem_cons, List.mem_map, List.mem_append]; exact .inr (.inr ⟨g, .inl hg, z⟩))
      · rcases List.mem_cons.mp hg with hg | hg
        · intro hin
          cases e2 : hideF (bl :: gl :: foots (A ++ f :: B)) H a with
          | none => exact side a hin e2
          | some o =>
            have e3 := hide_some (fun z => hide_in e2 (inO a z)) (hide_same _ _ _ _ e2)
            rw [hnew a (by rw [← z, hg]; simp [Fp.all])] at e3
            cases e3
        · exact h.out _ (by simp only [List.mem_cons, List.mem_map, List.mem_append]; exact .inr (.inr ⟨g, .inr (.inr hg), z⟩))
  · rw [foots_mid]
    have f'no : ∀ a ∈ f'.all, a ∉ bl :: gl :: (foots A ++ foots B) := fun a ha => no (hnew a ha)
    refine List.nodup_cons.mpr ⟨fun z => ?_, List.nodup_cons.mpr ⟨fun z => ?_, List.nodup_append.mpr ⟨ndA, List.nodup_append.mpr ⟨hbx.nd, ndB, fun a ha b hb e => ?_⟩, fun a ha b hb e => ?_⟩⟩⟩
    · simp only [List.mem_cons, List.mem_append] at z
      rcases z with z | z | z | z
      · exact n1 (by simp [z])
      · exact n1 (by simp only [List.mem_cons, List.mem_append]; exact .inr (.inl z))
      · exact f'no bl z (by simp)
      · exact n1 (by simp only [List.mem_cons, List.mem_append]; exact .inr (.inr (.inr z)))
    · simp only [List.mem_append] at z
      rcases z with z | z | z
      · exact n2 (by simp only [List.mem_append]; exact .inl z)
      · exact f'no gl z (by simp)
      · exact n2 (by simp only [List.mem_append]; exact .inr (.inr z))
    · subst e
      exact f'no a ha (by simp only [List.mem_cons, List.mem_append]; exact .inr (.inr (.inr hb)))
    · subst e
      rcases List.mem_append.mp hb with z | z
      · exact f'no a z (by simp only [List.mem_cons, List.mem_append]; exact .inr (.inr (.inl ha)))
      · exact dAR a ha a (List.mem_append_right _ z) rfl
  · rcases mem' a ha with z | z
    · exact apart a z
    · exact ⟨fun e => no nt (e ▸ z), fun e => no nll (e ▸ z), fun e => no nlg (e ▸ z)⟩
end K67

namespace K67
open PySem PySem.Spec PyProof.Rows L2 My
def giveW (W : WallS) (n : Option Nat) : WallS := ⟨W.sizes, ⟨W.cur.d, W.cur.rs, W.cur.boxes, W.cur.given ++ [n]⟩, W.past⟩
theorem WorkAt.give {K : PySem.W.Frag} {as : List Addr} {H0 H : Hp} {x pl dx k sz bl gl : Addr} {fs : List Fp} {xs : List V} {W : WallS} (h : WorkAt K as H0 H x pl dx k sz bl gl fs xs W) (n : Option Nat) :
    WorkAt K as H0 (upd H gl (.lst ((W.cur.given ++ [n]).map giV))) x pl dx k sz bl gl fs xs (giveW W n) := by
  obtain ⟨n1, nd2⟩ := List.nodup_cons.mp h.nd
  obtain ⟨n2, nd3⟩ := List.nodup_cons.mp nd2
  have hid : Same (hideF (bl :: gl :: foots fs) H) (hideF (bl :: gl :: foots fs) (upd H gl (.lst ((W.cur.given ++ [n]).map giV)))) := fun c o e => hide_some (hide_in e) (by
    rw [upd_ne (fun z => hide_in e (by rw [z]; simp))]
    exact hide_same _ _ _ _ e)
  refine ⟨fun c o nc e => ?_, hid _ _ h.hx, same_tup hid h.hsz, h.book.same hid, h.good, hid _ _ h.hpl, paired_map (fun _ _ _ z => z.same hid) h.past, h.pin, ?_, upd_same, ?_, h.out, h.new, h.nd⟩
  · rw [upd_ne (fun z => by
      have := h.new c (by rw [z]; simp)
      rw [e] at this
      cases this)]
    exact h.but c o nc e
  · rw [upd_ne (fun z => n1 (by rw [z]; simp))]
    exact h.hbl
  · exact paired_map (fun f S hf hb => hb.but (as := [gl]) ((But.refl _ _).put (.inr (by simp))) fun a ha z => n2 (by rw [← List.mem_singleton.mp z]; exact foots_mem hf ha)) h.hfs
theorem WorkAt.side {K : PySem.W.Frag} {as : List Addr} {H0 H : Hp} {x pl dx k sz bl gl : Addr} {fs : List Fp} {xs : List V} {W : WallS} (h : WorkAt K as H0 H x pl dx k sz bl gl fs xs W) {f : Fp} (hf : f ∈ fs) : Same (hideF (bl :: gl :: foots fs) H) (hideF f.all H) := fun c o e =>
  hide_some (fun z => hide_in e (by simp only [List.mem_cons]; exact .inr (.inr (foots_mem hf z)))) (hide_same _ _ _ _ e)
/-- new objects beside a wall at work -/
theorem WorkAt.same {K : PySem.W.Frag} {as : List Addr} {H0 H H' : Hp} {x pl dx k sz bl gl : Addr} {fs : List Fp} {xs : List V} {W : WallS} (s : Same H H') (h : WorkAt K as H0 H x pl dx k sz bl gl fs xs W) : WorkAt K as H0 H' x pl dx k sz bl gl fs xs W := by
  have hid : Same (hideF (bl :: gl :: foots fs) H) (hideF (bl :: gl :: foots fs) H') := fun c o e => hide_some (hide_in e) (s _ _ (hide_same _ _ _ _ e))
  exact ⟨h.but.trans (But.of s), hid _ _ h.hx, same_tup hid h.hsz, h.book.same hid, h.good, hid _ _ h.hpl, paired_map (fun _ _ _ z => z.same hid) h.past, h.pin, s _ _ h.hbl, s _ _ h.hgl, paired_map (fun _ _ _ z => z.same s) h.hfs, h.out, h.new, h.nd⟩
def boxOf (W : WallS) (i : Nat) : BoxS := W.cur.boxes.getD i S0
theorem boxOf_get {W : WallS} {i : Nat} (h : i < W.cur.boxes.length) : W.cur.boxes[i]? = some (boxOf W i) := by
  unfold boxOf
  rw [List.getD_eq_getElem?_getD, List.getElem?_eq_getElem h]
  rfl
/-- a bring: the wall behind it, the box, the letters -/
def bringW (W : WallS) (size : Int) (l s : Bool) : WallS × Option Nat × List Int :=
  match placeF W.sizes W.cur.boxes size with
  | none => (giveW (remW W) none, none, [])
  | some i => (setBox (giveW (remW W) (some i)) i (bringF W.cur.rs ((W.cur.given.length : Int) + 1) l s (boxOf W i)).1, some i, (bringF W.cur.rs ((W.cur.given.length : Int) + 1) l s (boxOf W i)).2.letters)
structure WSm (W : WallS) (n : Nat) : Prop where
  len : W.sizes.length = W.cur.boxes.length
  b12 : W.cur.boxes.length ≤ 12
  bd : ∀ S ∈ W.cur.boxes, Bd n (S, T0)
  giv : W.cur.given.length ≤ n
  pas : W.past.length ≤ n
  sm : n ≤ 90000
theorem placeF_lt {sizes : List Int} {boxes : List BoxS} {size : Int} {i : Nat} (h : placeF sizes boxes size = some i) : i < boxes.length ∧ fitsB sizes boxes size i = true := by
  have key : ∀ (l : List Nat) (b : Option Nat) (i : Nat), l.foldl (lessF sizes) b = some i → i ∈ l ∨ b = some i := by
    intro l
    induction l with
    | nil => intro b i e; exact .inr e
    | cons a l ih =>
      intro b i e
      rcases ih _ _ e with z | z
      · exact .inl (List.mem_cons_of_mem _ z)
      · cases b with
        | none => cases z; exact .inl (List.mem_cons_self ..)
        | some j =>
          unfold lessF at z
          by_cases c : sizes.getD a 0 < sizes.getD j 0
          · have z2 : some a = some i := by rw [← z]; exact (if_pos c).symm
            cases z2; exact .inl (List.mem_cons_self ..)
          · have z2 : some j = some i := by rw [← z]; exact (if_neg c).symm
            exact .inr z2
  rcases key _ _ _ h with z | z
  · obtain ⟨z1, z2⟩ := List.mem_filter.mp z
    exact ⟨List.mem_range.mp z1, z2⟩
  · cases z
section
variable {P : Program} {w : World} {K : PySem.W.Frag} {mg : Str → Option Value} {base : Heap}
def sp_Wall_bring (K : PySem.W.Frag) : Sp := fun vs H Q _ => ∃ (x pl : Addr) (as : List Addr) (W : WallS) (size : Int) (l s : Bool) (n : Nat), vs = [.ref x, .int size, .bl l, .bl s] ∧ WallAt K as H x pl W ∧ (∀ a ∈ as, H a ≠ none) ∧ WSm W n ∧ 1 ≤ size ∧ size ≤ 9 ∧
  ∀ H' p lt, But [x, pl] H H' → WallAt K as H' x pl (bringW W size l s).1 → H p = none → H lt = none → p ≠ lt → H' p = some (.tup [.int ((W.cur.given.length : Int) + 1), giV (bringW W size l s).2.1, .ref lt]) → H' lt = some (.lst ((bringW W size l s).2.2.map V.int)) → Q (.ref p) H'
set_option maxHeartbeats 2000000 in
theorem ok_Wall_bring (T : Txt w K mg) {fd : FuncData} (F : FunD K d_Wall_bring.name d_Wall_bring.qual d_Wall_bring.params d_Wall_bring.body d_Wall_bring.scope (d_Wall_bring.dvs K) (d_Wall_bring.kws K) (He.fAd K d_Wall_bring.at_) fd) : FnOk P w K mg base C8.CX0 6 (He.fAd K d_Wall_bring.at_) fd ["self", "size", "lays", "shuts"] (sp_Wall_bring K) := by
  have c_Box_bring := c_Box_bring (P := P) (w := w) (base := base) T
  have c_Wall_fitting := c_Wall_fitting (P := P) (w := w) (base := base) T
  have c_Wall_remember := c_Wall_remember (P := P) (w := w) (base := base) T
  have c_check_truths := c_check_truths (P := P) (w := w) (base := base) T
  have c_is_size := c_is_size (P := P) (w := w) (base := base) T
  refine F.ok sc_Wall_bring (fun vs H Q E h => ?_) (fun cdv A outer s H vs Q E hr h => ?_)
  · obtain ⟨x, pl, as, W, size, l, s, n, rfl, _⟩ := h
    rfl
  · have hu := L2.hu_of hr
    obtain ⟨x, pl, as, W, size, l, s1, n, rfl, hW, live, sm, z1, z9, q⟩ := h
    refine ⟨_, (PSs.nox ((pss_cons (ps_if (pt_not (pt_val (C8.pe_c c_is_size hr (by decide) rfl (pa_cons (pv 1) pa_nil))))
  (pss_one ps_never)
  pss_nil)
  (pss_cons (ps_expr (C8.pe_c c_check_truths hr (by decide) rfl (pa_cons (pe_tup (pa_cons (pv 2) (pa_cons (pv 3) pa_nil))) pa_nil)))
  (pss_cons (ps_expr (C8.pe_mt0 c_Wall_remember hr (by decide) (pv 0)))
  (pss_cons (ps_set (i := 4) sc_Wall_bring.nd rfl (by first | exact Or.inl rfl | exact Or.inr rfl) (C8.pe_mt c_Wall_fitting hr (by decide) (pv 0) (pa_cons (pv 1) pa_nil)))
  (pss_cons (ps_expr (My.pe_bmK (K := K) rfl PySem.F.plainAttrs_list PySem.F.slot_list_append PySem.F.type_list_append mt_append (My.pe_fldK (K := K) rfl (pv 0) rfl) (pa_cons (pv 4) pa_nil)))
  (pss_cons (ps_set (i := 5) sc_Wall_bring.nd rfl (by first | exact Or.inl rfl | exact Or.inr rfl) (pe_callB (My.len_seqK (K := K) rfl) (by rfl) T.len (by decide +kernel) (pa_cons (My.pe_fldK (K := K) rfl (pv 0) rfl) pa_nil)))
  (pss_cons (ps_if (pt_cmpR op_isN (pv 4) pe_non (nomark _))
  (pss_one (ps_ret (pe_tup (pa_cons (pv 5) (pa_cons pe_non (pa_cons (pe_lst pa_nil) pa_nil))))))
  pss_nil)
  (pss_cons (ps_set (i := 6) sc_Wall_bring.nd rfl (by first | exact Or.inl rfl | exact Or.inr rfl) (C8.pe_mt c_Box_bring hr (by decide) (pe_ix (My.ix_listK (K := K) rfl) (My.pe_fldK (K := K) rfl (pv 0) rfl) (pv 4) (fun _ _ => rfl)) (pa_cons (My.pe_fldK (K := K) rfl (pv 0) rfl) (pa_cons (pv 5) (pa_cons (pv 2) (pa_cons (pv 3) pa_nil))))))
  (pss_one (ps_ret (pe_tup (pa_cons (pv 5) (pa_cons (pv 4) (pa_cons (My.pe_fldK (K := K) rfl (pv 6) rfl) pa_nil)))))))))))))))), ?_⟩
    refine ⟨_, rfl, size, rfl, z1, z9, true, rfl, L2.iteF ?_⟩
    refine ⟨_, rfl, _, rfl, by show 2 ≤ sizeLine; decide, fun t nt => ?_⟩
    have st := same_new (o := .tup [.bl l, .bl s1]) nt
    refine ⟨t, [l, s1], rfl, SqT.of upd_same, (by show 2 ≤ 100; decide), fun H1 s1h => ?_⟩
    have s01 := st.trans s1h
    have hW1 := hW.same s01
    have live1 : ∀ a ∈ as, H1 a ≠ none := fun a ha e => live a ha (s01.free e)
    obtain ⟨dx0, _, _, _, _, _, hx0, _⟩ := id hW1
    refine ⟨_, rfl, x, dx0, _, rfl, hx0, rfl, x, pl, as, W, rfl, hW1, live1, sm.b12, Nat.le_trans sm.pas (Nat.le_trans sm.sm (by decide)), fun H2 dx k sz bl gl fs xs hK => ?_⟩
    have hx2 := hide_same _ _ _ _ hK.hx
    refine ⟨_, rfl, x, dx, _, rfl, hx2, rfl, _, rfl, x, pl, as, remW W, size, rfl, hK.wall, sm.len, sm.b12, fun H3 s3 => ?_⟩
    have hK3 := hK.same s3
    have hx3 := hide_same _ _ _ _ hK3.hx
    refine ⟨_, rfl, x, _, dx, _, _, rfl, hx3, T.cl_Wall, T.no_Wall__given, rfl, .inl ⟨rfl, _, SqL.of hK3.hgl⟩, _, rfl, gl, _, _, rfl, rfl, hK3.hgl, ?_, ?_⟩
    · rw [List.length_map]
      have := sm.giv
      have := sm.sm
      exact lt_line (by show W.cur.given.length ≤ 1000000; omega)
    have hK4 := hK3.give (placeF W.sizes W.cur.boxes size)
    have e4 : W.cur.given.map giV ++ [giV (placeF W.sizes W.cur.boxes size)] = (W.cur.given ++ [placeF W.sizes W.cur.boxes size]).map giV := by rw [List.map_append]; rfl
    show Ends.nx _ _ (upd H3 gl (.lst (W.cur.given.map giV ++ [giV (placeF W.sizes W.cur.boxes size)])))
    rw [e4]
    have hK4' : WorkAt K as H1 (upd H3 gl (.lst ((W.cur.given ++ [placeF W.sizes W.cur.boxes size]).map giV))) x pl dx k sz bl gl fs xs (giveW (remW W) (placeF W.sizes W.cur.boxes size)) := hK4
    generalize upd H3 gl (.lst ((W.cur.given ++ [placeF W.sizes W.cur.boxes size]).map giV)) = H4 at hK4' ⊢
    have hx4 := hide_same _ _ _ _ hK4'.hx
    have hgl4 : H4 gl = some (.lst ((W.cur.given ++ [placeF W.sizes W.cur.boxes size]).map giV)) := hK4'.hgl
    refine ⟨_, rfl, x, _, dx, _, _, rfl, hx4, T.cl_Wall, T.no_Wall__given, rfl, gl, _, rfl, .inl (SqL.of hgl4), ?_⟩
    have e5 : (((W.cur.given ++ [placeF W.sizes W.cur.boxes size]).map giV).length : Int) = (W.cur.given.length : Int) + 1 := by rw [List.length_map, List.length_append]; rfl
    rw [e5]
    have hpr : placeF (remW W).sizes (remW W).cur.boxes size = placeF W.sizes W.cur.boxes size := rfl
    rw [hpr]
    have b04 := (But.of s01 : But [x, pl] H H1).trans hK4'.but
    have fre : ∀ {a : Addr}, H1 a = none → H a = none := fun e => s01.free e
    cases hpf : placeF W.sizes W.cur.boxes size with
    | none =>
      rw [hpf] at hK4'
      have eb : bringW W size l s1 = (giveW (remW W) none, none, []) := by unfold bringW; rw [hpf]
      rw [eb] at q
      refine ⟨_, rfl, rfl, true, rfl, L2.iteT ?_⟩
      refine ⟨_, rfl, Nat.zero_le _, fun lt nlt => ⟨by show 3 ≤ sizeLine; decide, fun p np => ?_⟩⟩
      obtain ⟨npl, np2⟩ := up_none np
      have y1 := same_new (o := .lst []) nlt
      have y2 := same_new (o := .tup [.int ((W.cur.given.length : Int) + 1), .non, .ref lt]) np
      exact q _ p lt (b04.trans (But.of (y1.trans y2))) (hK4'.wall.same (y1.trans y2)) (fre (hK4'.fresh (.inl np2))) (fre (hK4'.fresh (.inl nlt))) npl upd_same (y2 _ _ upd_same)
    | some i =>
      rw [hpf] at hK4'
      obtain ⟨hi, _⟩ := placeF_lt hpf
      refine ⟨_, rfl, rfl, false, rfl, L2.iteF ?_⟩
      have hS : (giveW (remW W) (some i)).cur.boxes[i]? = some (boxOf W i) := boxOf_get hi
      obtain ⟨f, hf⟩ : ∃ f, fs[i]? = some f := by
        have hl := hK4'.hfs.length
        exact ⟨_, List.getElem?_eq_getElem (by rw [hl]; exact hi)⟩
      have hmf : f ∈ fs := List.mem_of_getElem? hf
      obtain ⟨S2, hS2, hb⟩ := paired_at hK4'.hfs hf
      rw [hS] at hS2
      cases hS2
      obtain ⟨db, hbx⟩ := hb.hb
      have hside := hK4'.side hmf
      refine ⟨_, rfl, x, _, dx, _, _, rfl, hx4, T.cl_Wall, T.no_Wall__boxes, rfl, _, rfl, bl, _, _, _, rfl, rfl, SqL.of hK4'.hbl, atI_nat (by rw [List.getElem?_map, hf]; rfl), f.b, db, _, rfl, hbx, rfl, _, rfl, x, _, dx, _, _, rfl, hx4, T.cl_Wall, T.no_Wall__book, rfl, _, rfl, _, rfl, _, rfl, ?_⟩
      refine ⟨hideF f.all H4, f.b, k, (W.cur.given.length : Int) + 1, l, s1, W.cur.d, W.cur.rs, boxOf W i, n, rfl, hb.bx, hK4'.book.same hside, hK4'.good, sm.bd _ (List.mem_of_getElem? hS), Nat.lt_of_le_of_lt sm.sm (by decide), fun H5 t5 hB => ?_⟩
      obtain ⟨fs', ll, lg, hK5, ⟨dt, yb, lw, lm, ht5, hll5, hlg5⟩, nt5, nll5, nlg5, nlr, apart, _⟩ := hK4'.op (hK4'.beside live1) hf hS hB
      refine ⟨_, rfl, _, rfl, _, rfl, t5, _, dt, _, _, rfl, ht5, T.cl_Told, T.no_Told_letters, rfl, by show 3 ≤ sizeLine; decide, fun p np => ?_⟩
      have eb : bringW W size l s1 = (setBox (giveW (remW W) (some i)) i (bringF W.cur.rs ((W.cur.given.length : Int) + 1) l s1 (boxOf W i)).1, some i, (bringF W.cur.rs ((W.cur.given.length : Int) + 1) l s1 (boxOf W i)).2.letters) := by unfold bringW; rw [hpf]
      rw [eb] at q
      have y2 := same_new (o := .tup [.int ((W.cur.given.length : Int) + 1), .int (i : Int), .ref ll]) np
      exact q _ p ll (((But.of s01 : But [x, pl] H H1).trans hK5.but).trans (But.of y2)) (hK5.wall.same y2) (fre (hK5.fresh (.inl np))) (fre nll5) (ne_of_none hll5 np).symm upd_same (y2 _ _ hll5)
theorem c_Wall_bring (T : Txt w K mg) : C8.Met P w K mg base 6 (He.ga K "Wall") "bring" (sp_Wall_bring K) [] := by
  obtain ⟨fd, F⟩ := T.f_Wall_bring
  exact ⟨_, fd, _, _, T.cl_Wall, T.m_Wall_bring, ok_Wall_bring T F, F.bindsN (fun _ _ _ _ _ _ us hl => match us, hl with | [_, _, _, _], _ => rfl), .nil⟩
end
end K67

namespace K67
open PySem PySem.Spec PyProof.Rows L2 My
def homeOf (W : WallS) (p : Int) : Option Nat := (W.cur.given[(p - 1).toNat]?).getD none
/-- a code: the wall behind it, what is told -/
def codeW (W : WallS) (p : Int) (t s : Bool) : WallS × ToldS := match homeOf W p with
  | none => (remW W, T0)
  | some i => (setBox (remW W) i (codeF W.cur.rs p t s (boxOf W i)).1, (codeF W.cur.rs p t s (boxOf W i)).2)
def passW (W : WallS) (i : Nat) : WallS × ToldS := (setBox (remW W) i (passBy (boxOf W i)).1, (passBy (boxOf W i)).2)
def GivOk (W : WallS) : Prop := ∀ i, some i ∈ W.cur.given → i < W.cur.boxes.length
section
variable {P : Program} {w : World} {K : PySem.W.Frag} {mg : Str → Option Value} {base : Heap}
def sp_Wall_code (K : PySem.W.Frag) : Sp := fun vs H Q _ => ∃ (x pl : Addr) (as : List Addr) (W : WallS) (p : Int) (l s : Bool) (n : Nat), vs = [.ref x, .int p, .bl l, .bl s] ∧ WallAt K as H x pl W ∧ (∀ a ∈ as, H a ≠ none) ∧ WSm W n ∧ GivOk W ∧ 1 ≤ p ∧ p ≤ (W.cur.given.length : Int) ∧
  ∀ H' r ll lg, But [x, pl] H H' → WallAt K as H' x pl (codeW W p l s).1 → H r = none → H ll = none → H lg = none → [r, ll, lg].Nodup → H' r = some (.tup [.ref ll, .bl (codeW W p l s).2.opened, .ref lg]) → H' ll = some (.lst ((codeW W p l s).2.letters.map V.int)) → H' lg = some (.lst ((codeW W p l s).2.got.map V.int)) → Q (.ref r) H'
set_option maxHeartbeats 2000000 in
theorem ok_Wall_code (T : Txt w K mg) {fd : FuncData} (F : FunD K d_Wall_code.name d_Wall_code.qual d_Wall_code.params d_Wall_code.body d_Wall_code.scope (d_Wall_code.dvs K) (d_Wall_code.kws K) (He.fAd K d_Wall_code.at_) fd) : FnOk P w K mg base C8.CX0 6 (He.fAd K d_Wall_code.at_) fd ["self", "parcel", "takes", "shuts"] (sp_Wall_code K) := by
  have c_Told_report := c_Told_report (P := P) (w := w) (base := base) T
  have c_Box_code := c_Box_code (P := P) (w := w) (base := base) T
  have c_Wall_remember := c_Wall_remember (P := P) (w := w) (base := base) T
  have c_check_truths := c_check_truths (P := P) (w := w) (base := base) T
  have c_Wall_was_brought := c_Wall_was_brought (P := P) (w := w) (base := base) T
  refine F.ok sc_Wall_code (fun vs H Q E h => ?_) (fun cdv A outer s H vs Q E hr h => ?_)
  · obtain ⟨x, pl, as, W, p, l, s, n, rfl, _⟩ := h
    rfl
  · have hu := L2.hu_of hr
    obtain ⟨x, pl, as, W, p, l, s1, n, rfl, hW, live, sm, gok, p1, p2, q⟩ := h
    refine ⟨_, (PSs.nox ((pss_cons (ps_if (pt_not (pt_val (C8.pe_mt c_Wall_was_brought hr (by decide) (pv 0) (pa_cons (pv 1) pa_nil))))
  (pss_one ps_never)
  pss_nil)
  (pss_cons (ps_expr (C8.pe_c c_check_truths hr (by decide) rfl (pa_cons (pe_tup (pa_cons (pv 2) (pa_cons (pv 3) pa_nil))) pa_nil)))
  (pss_cons (ps_expr (C8.pe_mt0 c_Wall_remember hr (by decide) (pv 0)))
  (pss_cons (ps_set (i := 4) sc_Wall_code.nd rfl (by first | exact Or.inl rfl | exact Or.inr rfl) (pe_ix (My.ix_listK (K := K) rfl) (My.pe_fldK (K := K) rfl (pv 0) rfl) (pe_op op_sub (pv 1) pe_int) (fun _ _ => rfl)))
  (pss_cons (ps_if (pt_cmpR op_isN (pv 4) pe_non (nomark _))
  (pss_one (ps_ret (pe_tup (pa_cons (pe_lst pa_nil) (pa_cons pe_bl (pa_cons (pe_lst pa_nil) pa_nil))))))
  pss_nil)
  (pss_cons (ps_set (i := 5) sc_Wall_code.nd rfl (by first | exact Or.inl rfl | exact Or.inr rfl) (C8.pe_mt c_Box_code hr (by decide) (pe_ix (My.ix_listK (K := K) rfl) (My.pe_fldK (K := K) rfl (pv 0) rfl) (pv 4) (fun _ _ => rfl)) (pa_cons (My.pe_fldK (K := K) rfl (pv 0) rfl) (pa_cons (pv 1) (pa_cons (pv 2) (pa_cons (pv 3) pa_nil))))))
  (pss_one (ps_ret (C8.pe_mt0 c_Told_report hr (by decide) (pv 5)))))))))))), ?_⟩
    obtain ⟨dx0, _, _, _, _, _, hx00, _⟩ := id hW
    refine ⟨_, rfl, x, dx0, _, rfl, hx00, rfl, _, rfl, x, pl, as, W, p, rfl, hW, ?_⟩
    have eb : (decide (1 ≤ p) && decide (p ≤ (W.cur.given.length : Int))) = true := by rw [decide_eq_true p1, decide_eq_true p2]; rfl
    refine ⟨true, by rw [eb], L2.iteF ?_⟩
    refine ⟨_, rfl, _, rfl, by show 2 ≤ sizeLine; decide, fun t nt => ?_⟩
    have st := same_new (o := .tup [.bl l, .bl s1]) nt
    refine ⟨t, [l, s1], rfl, SqT.of upd_same, (by show 2 ≤ 100; decide), fun H1 s1h => ?_⟩
    have s01 := st.trans s1h
    have hW1 := hW.same s01
    have live1 : ∀ a ∈ as, H1 a ≠ none := fun a ha e => live a ha (s01.free e)
    have hx0 := s01 _ _ hx00
    refine ⟨_, rfl, x, dx0, _, rfl, hx0, rfl, x, pl, as, W, rfl, hW1, live1, sm.b12, Nat.le_trans sm.pas (Nat.le_trans sm.sm (by decide)), fun H2 dx k sz bl gl fs xs hK => ?_⟩
    have hx2 := hide_same _ _ _ _ hK.hx
    have hgl2 : H2 gl = some (.lst (W.cur.given.map giV)) := hK.hgl
    obtain ⟨j, hj, ej⟩ : ∃ j : Nat, j < W.cur.given.length ∧ p - 1 = (j : Int) := ⟨(p - 1).toNat, by omega, by omega⟩
    have hjv : W.cur.given[j]? = some W.cur.given[j] := List.getElem?_eq_getElem hj
    have hh : homeOf W p = W.cur.given[j] := by
      unfold homeOf
      rw [ej, Int.toNat_natCast, hjv]
      rfl
    refine ⟨_, rfl, x, _, dx, _, _, rfl, hx2, T.cl_Wall, T.no_Wall__given, rfl, _, rfl, _, _, rfl, rfl, gl, _, _, _, rfl, rfl, SqL.of hgl2, (by rw [ej]; exact atI_nat (by rw [List.getElem?_map, hjv]; rfl)), ?_⟩
    have fre : ∀ {a : Addr}, H1 a = none → H a = none := fun e => s01.free e
    cases hpf : W.cur.given[j] with
    | none =>
      rw [hpf] at hh
      have eb : codeW W p l s1 = (remW W, T0) := by unfold codeW; rw [hh]
      rw [eb] at q
      refine ⟨_, rfl, rfl, true, rfl, L2.iteT ?_⟩
      refine ⟨Nat.zero_le _, fun ll nll => ⟨Nat.zero_le _, fun lg nlg => ⟨by show 3 ≤ sizeLine; decide, fun r nr => ?_⟩⟩⟩
      obtain ⟨ngl, nlg2⟩ := up_none nlg
      obtain ⟨nrg, nr2⟩ := up_none nr
      obtain ⟨nrl, nr3⟩ := up_none nr2
      have y1 := same_new (o := .lst []) nll
      have y2 := same_new (o := .lst []) nlg
      have y3 := same_new (o := .tup [.ref ll, .bl false, .ref lg]) nr
      have yy := (y1.trans y2).trans y3
      exact q _ r ll lg (((But.of s01 : But [x, pl] H H1).trans hK.but).trans (But.of yy)) (hK.wall.same yy) (fre (hK.fresh (.inl nr3))) (fre (hK.fresh (.inl nll))) (fre (hK.fresh (.inl nlg2))) (by simp only [List.nodup_cons, List.mem_cons, List.not_mem_nil, or_false, not_or, not_false_eq_true, List.nodup_nil, and_true]; exact ⟨⟨nrl, nrg⟩, ngl.symm⟩) upd_same (y3 _ _ (y2 _ _ upd_same)) (y3 _ _ upd_same)
    | some i =>
      rw [hpf] at hh
      have hi : i < W.cur.boxes.length := gok i (by rw [← hpf]; exact List.getElem_mem hj)
      refine ⟨_, rfl, rfl, false, rfl, L2.iteF ?_⟩
      have hS : (remW W).cur.boxes[i]? = some (boxOf W i) := boxOf_get hi
      obtain ⟨f, hf⟩ : ∃ f, fs[i]? = some f := by
        have hl := hK.hfs.length
        exact ⟨_, List.getElem?_eq_getElem (by rw [hl]; exact hi)⟩
      have hmf : f ∈ fs := List.mem_of_getElem? hf
      obtain ⟨S2, hS2, hb⟩ := paired_at hK.hfs hf
      rw [hS] at hS2
      cases hS2
      obtain ⟨db, hbx⟩ := hb.hb
      have hside := hK.side hmf
      refine ⟨_, rfl, x, _, dx, _, _, rfl, hx2, T.cl_Wall, T.no_Wall__boxes, rfl, _, rfl, bl, _, _, _, rfl, rfl, SqL.of hK.hbl, atI_nat (by rw [List.getElem?_map, hf]; rfl), f.b, db, _, rfl, hbx, rfl, _, rfl, x, _, dx, _, _, rfl, hx2, T.cl_Wall, T.no_Wall__book, rfl, _, rfl, _, rfl, _, rfl, ?_⟩
      refine ⟨hideF f.all H2, f.b, k, p, l, s1, W.cur.d, W.cur.rs, boxOf W i, n, rfl, hb.bx, hK.book.same hside, hK.good, sm.bd _ (List.mem_of_getElem? hS), Nat.lt_of_le_of_lt sm.sm (by decide), fun H5 t5 hB => ?_⟩
      obtain ⟨fs', ll, lg, hK5, ⟨dt, yb, lw, lm, ht5, hll5, hlg5⟩, nt5, nll5, nlg5, nlr, apart, _⟩ := hK.op (hK.beside live1) hf hS hB
      refine ⟨_, rfl, t5, dt, _, rfl, ht5, rfl, t5, dt, yb, ll, lg, lw, lm, _, rfl, ht5, fun r nr => ?_⟩
      have eb : codeW W p l s1 = (setBox (remW W) i (codeF W.cur.rs p l s1 (boxOf W i)).1, (codeF W.cur.rs p l s1 (boxOf W i)).2) := by unfold codeW; rw [hh]
      rw [eb] at q
      have y2 := same_new (o := .tup [.ref ll, .bl (codeF W.cur.rs p l s1 (boxOf W i)).2.opened, .ref lg]) nr
      exact q _ r ll lg (((But.of s01 : But [x, pl] H H1).trans hK5.but).trans (But.of y2)) (hK5.wall.same y2) (fre (hK5.fresh (.inl nr))) (fre nll5) (fre nlg5) (by simp only [List.nodup_cons, List.mem_cons, List.not_mem_nil, or_false, not_or, not_false_eq_true, List.nodup_nil, and_true]; exact ⟨⟨(ne_of_none hll5 nr).symm, (ne_of_none hlg5 nr).symm⟩, nlr⟩) upd_same (y2 _ _ hll5) (y2 _ _ hlg5)
theorem c_Wall_code (T : Txt w K mg) : C8.Met P w K mg base 6 (He.ga K "Wall") "code" (sp_Wall_code K) [] := by
  obtain ⟨fd, F⟩ := T.f_Wall_code
  exact ⟨_, fd, _, _, T.cl_Wall, T.m_Wall_code, ok_Wall_code T F, F.bindsN (fun _ _ _ _ _ _ us hl => match us, hl with | [_, _, _, _], _ => rfl), .nil⟩
def sp_Wall_pass_by (K : PySem.W.Frag) : Sp := fun vs H Q _ => ∃ (x pl : Addr) (as : List Addr) (W : WallS) (i : Nat) (n : Nat), vs = [.ref x, .int (i : Int)] ∧ WallAt K as H x pl W ∧ (∀ a ∈ as, H a ≠ none) ∧ WSm W n ∧ i < W.cur.boxes.length ∧
  ∀ H' lg, But [x, pl] H H' → WallAt K as H' x pl (passW W i).1 → H lg = none → H' lg = some (.lst ((passW W i).2.got.map V.int)) → Q (.ref lg) H'
set_option maxHeartbeats 2000000 in
theorem ok_Wall_pass_by (T : Txt w K mg) {fd : FuncData} (F : FunD K d_Wall_pass_by.name d_Wall_pass_by.qual d_Wall_pass_by.params d_Wall_pass_by.body d_Wall_pass_by.scope (d_Wall_pass_by.dvs K) (d_Wall_pass_by.kws K) (He.fAd K d_Wall_pass_by.at_) fd) : FnOk P w K mg base C8.CX0 5 (He.fAd K d_Wall_pass_by.at_) fd ["self", "box"] (sp_Wall_pass_by K) := by
  have c_Box_pass_by := c_Box_pass_by (P := P) (w := w) (base := base) T
  have c_Wall_remember := c_Wall_remember (P := P) (w := w) (base := base) T
  have c_Wall_check_box := c_Wall_check_box (P := P) (w := w) (base := base) T
  refine F.ok sc_Wall_pass_by (fun vs H Q E h => ?_) (fun cdv A outer s H vs Q E hr h => ?_)
  · obtain ⟨x, pl, as, W, i, n, rfl, _⟩ := h
    rfl
  · have hu := L2.hu_of hr
    obtain ⟨x, pl, as, W, i, n, rfl, hW, live, sm, hi, q⟩ := h
    refine ⟨_, (PSs.nox ((pss_cons (ps_expr (C8.pe_mt c_Wall_check_box hr (by decide) (pv 0) (pa_cons (pv 1) pa_nil)))
  (pss_cons (ps_expr (C8.pe_mt0 c_Wall_remember hr (by decide) (pv 0)))
  (pss_one (ps_ret (My.pe_fldK (K := K) rfl (C8.pe_mt0 c_Box_pass_by hr (by decide) (pe_ix (My.ix_listK (K := K) rfl) (My.pe_fldK (K := K) rfl (pv 0) rfl) (pv 1) (fun _ _ => rfl))) rfl))))))), ?_⟩
    obtain ⟨dx0, _, _, _, _, _, hx0, _⟩ := id hW
    refine ⟨_, rfl, x, dx0, _, rfl, hx0, rfl, _, rfl, x, pl, as, W, (i : Int), rfl, hW, by omega, by omega, ?_⟩
    refine ⟨_, rfl, x, dx0, _, rfl, hx0, rfl, x, pl, as, W, rfl, hW, live, sm.b12, Nat.le_trans sm.pas (Nat.le_trans sm.sm (by decide)), fun H2 dx k sz bl gl fs xs hK => ?_⟩
    have hx2 := hide_same _ _ _ _ hK.hx
    have hS : (remW W).cur.boxes[i]? = some (boxOf W i) := boxOf_get hi
    obtain ⟨f, hf⟩ : ∃ f, fs[i]? = some f := by
      have hl := hK.hfs.length
      exact ⟨_, List.getElem?_eq_getElem (by rw [hl]; exact hi)⟩
    obtain ⟨S2, hS2, hb⟩ := paired_at hK.hfs hf
    rw [hS] at hS2
    cases hS2
    obtain ⟨db, hbx⟩ := hb.hb
    refine ⟨_, rfl, x, _, dx, _, _, rfl, hx2, T.cl_Wall, T.no_Wall__boxes, rfl, _, rfl, bl, _, _, _, rfl, rfl, SqL.of hK.hbl, atI_nat (by rw [List.getElem?_map, hf]; rfl), f.b, db, _, rfl, hbx, rfl, ?_⟩
    refine ⟨hideF f.all H2, f.b, boxOf W i, n, rfl, hb.bx, sm.bd _ (List.mem_of_getElem? hS), Nat.lt_of_le_of_lt sm.sm (by decide), fun H5 t5 hB => ?_⟩
    obtain ⟨fs', ll, lg, hK5, ⟨dt, yb, lw, lm, ht5, hll5, hlg5⟩, nt5, nll5, nlg5, nlr, apart, _⟩ := hK.op (hK.beside live) hf hS hB
    exact ⟨t5, _, dt, _, _, rfl, ht5, T.cl_Told, T.no_Told_got, rfl, q _ lg hK5.but hK5.wall nlg5 hlg5⟩
theorem c_Wall_pass_by (T : Txt w K mg) : C8.Met P w K mg base 5 (He.ga K "Wall") "pass_by" (sp_Wall_pass_by K) [] := by
  obtain ⟨fd, F⟩ := T.f_Wall_pass_by
  exact ⟨_, fd, _, _, T.cl_Wall, T.m_Wall_pass_by, ok_Wall_pass_by T F, F.bindsN (fun _ _ _ _ _ _ us hl => match us, hl with | [_, _], _ => rfl), .nil⟩
def sp_Wall_box (K : PySem.W.Frag) : Sp := fun vs H Q _ => ∃ (x pl : Addr) (as : List Addr) (W : WallS) (i : Nat), vs = [.ref x, .int (i : Int)] ∧ WallAt K as H x pl W ∧ i < W.cur.boxes.length ∧ (boxOf W i).valid.length ≤ 50000 ∧ ∀ H' p ys, Same H H' → StdAt H H' p (boxOf W i) ys → Q (.ref p) H'
set_option maxHeartbeats 2000000 in
theorem ok_Wall_box (T : Txt w K mg) {fd : FuncData} (F : FunD K d_Wall_box.name d_Wall_box.qual d_Wall_box.params d_Wall_box.body d_Wall_box.scope (d_Wall_box.dvs K) (d_Wall_box.kws K) (He.fAd K d_Wall_box.at_) fd) : FnOk P w K mg base C8.CX0 3 (He.fAd K d_Wall_box.at_) fd ["self", "number"] (sp_Wall_box K) := by
  have c_Box_stands := c_Box_stands (P := P) (w := w) (base := base) T
  have c_Wall_check_box := c_Wall_check_box (P := P) (w := w) (base := base) T
  refine F.ok sc_Wall_box (fun vs H Q E h => ?_) (fun cdv A outer s H vs Q E hr h => ?_)
  · obtain ⟨x, pl, as, W, i, rfl, _⟩ := h
    rfl
  · have hu := L2.hu_of hr
    obtain ⟨x, pl, as, W, i, rfl, hW, hi, hv, q⟩ := h
    refine ⟨_, (PSs.nox ((pss_cons (ps_expr (C8.pe_mt c_Wall_check_box hr (by decide) (pv 0) (pa_cons (pv 1) pa_nil)))
  (pss_one (ps_ret (C8.pe_mt0 c_Box_stands hr (by decide) (pe_ix (My.ix_listK (K := K) rfl) (My.pe_fldK (K := K) rfl (pv 0) rfl) (pv 1) (fun _ _ => rfl)))))))), ?_⟩
    obtain ⟨dx, k, sz, bl, gl, xs, hx, hS, ⟨fs, hF⟩, _⟩ := id hW
    refine ⟨_, rfl, x, dx, _, rfl, hx, rfl, _, rfl, x, pl, as, W, (i : Int), rfl, hW, by omega, by omega, ?_⟩
    have hS : W.cur.boxes[i]? = some (boxOf W i) := boxOf_get hi
    obtain ⟨f, hf⟩ : ∃ f, fs[i]? = some f := by
      have hl := hF.hfs.length
      exact ⟨_, List.getElem?_eq_getElem (by rw [hl]; exact hi)⟩
    obtain ⟨S2, hS2, hb⟩ := paired_at hF.hfs hf
    rw [hS] at hS2
    cases hS2
    obtain ⟨db, hbx⟩ := hb.hb
    refine ⟨_, rfl, x, _, dx, _, _, rfl, hx, T.cl_Wall, T.no_Wall__boxes, rfl, _, rfl, bl, _, _, _, rfl, rfl, SqL.of hF.hbl, atI_nat (by rw [List.getElem?_map, hf]; rfl), f.b, db, _, rfl, hbx, rfl, ?_⟩
    exact ⟨f.b, db, f.li, f.dv, f.ds, f.dr, boxOf W i, rfl, hbx, hb.hli, hb.hdv, hv, q⟩
theorem c_Wall_box (T : Txt w K mg) : C8.Met P w K mg base 3 (He.ga K "Wall") "box" (sp_Wall_box K) [] := by
  obtain ⟨fd, F⟩ := T.f_Wall_box
  exact ⟨_, fd, _, _, T.cl_Wall, T.m_Wall_box, ok_Wall_box T F, F.bindsN (fun _ _ _ _ _ _ us hl => match us, hl with | [_, _], _ => rfl), .nil⟩
end
end K67

namespace K67
open PySem PySem.Spec PyProof.Rows L2 My
theorem SnapF.more {K : PySem.W.Frag} {as : List Addr} {H : Hp} {L k bl gl : Addr} {fs : List Fp} {s : SnapS} (n : H L = none) (h : SnapF K as H k bl gl fs s) : SnapF K (L :: as) H k bl gl fs s := by
  refine ⟨h.book, h.good, h.hbl, h.hfs, h.hgl, fun a ha z => ?_⟩
  rcases List.mem_cons.mp z with z | z
  · simp only [List.mem_cons, List.mem_map] at ha
    rcases ha with y | y | ⟨f, hf, y⟩
    · rw [← z, y, h.hbl] at n; cases n
    · rw [← z, y, h.hgl] at n; cases n
    · obtain ⟨i, hi⟩ := List.mem_iff_getElem?.mp hf
      obtain ⟨S, _, hb⟩ := paired_at h.hfs hi
      rw [← z, ← y, hb.hli] at n; cases n
  · exact h.out a ha z
theorem PastAt.more {K : PySem.W.Frag} {as : List Addr} {H : Hp} {L : Addr} {v : V} {s : SnapS} (n : H L = none) (h : PastAt K as H v s) : PastAt K (L :: as) H v s := by
  obtain ⟨t, k, bl, gl, e, h1, fs, h2⟩ := h
  exact ⟨t, k, bl, gl, e, h1, fs, h2.more n⟩
theorem WallAt.more {K : PySem.W.Frag} {as : List Addr} {H : Hp} {L x pl : Addr} {W : WallS} (n : H L = none) (h : WallAt K as H x pl W) : WallAt K (L :: as) H x pl W := by
  obtain ⟨dx, k, sz, bl, gl, xs, h1, h2, ⟨fs, h3⟩, h4, h5, h6⟩ := h
  exact ⟨dx, k, sz, bl, gl, xs, h1, h2, ⟨fs, h3.more n⟩, h4, paired_map (fun _ _ _ z => z.more n) h5, List.mem_cons_of_mem _ h6⟩
theorem PastAt.less {K : PySem.W.Frag} {as bs : List Addr} {H : Hp} {v : V} {s : SnapS} (m : ∀ a ∈ bs, a ∈ as) (h : PastAt K as H v s) : PastAt K bs H v s := by
  obtain ⟨t, k, bl, gl, e, h1, fs, h2⟩ := h
  exact ⟨t, k, bl, gl, e, h1, fs, h2.book, h2.good, h2.hbl, h2.hfs, h2.hgl, fun a ha z => h2.out a ha (m a z)⟩
theorem WallAt.less {K : PySem.W.Frag} {as bs : List Addr} {H : Hp} {x pl : Addr} {W : WallS} (m : ∀ a ∈ bs, a ∈ as) (hp : pl ∈ bs) (h : WallAt K as H x pl W) : WallAt K bs H x pl W := by
  obtain ⟨dx, k, sz, bl, gl, xs, h1, h2, ⟨fs, h3⟩, h4, h5, h6⟩ := h
  exact ⟨dx, k, sz, bl, gl, xs, h1, h2, ⟨fs, h3.book, h3.good, h3.hbl, h3.hfs, h3.hgl, fun a ha z => h3.out a ha (m a z)⟩, h4, paired_map (fun _ _ _ z => z.less m) h5, hp⟩
theorem WorkAt.more {K : PySem.W.Frag} {as : List Addr} {H0 H : Hp} {L x pl dx k sz bl gl : Addr} {fs : List Fp} {xs : List V} {W : WallS} (n : H L = none) (h : WorkAt K as H0 H x pl dx k sz bl gl fs xs W) : WorkAt K (L :: as) H0 H x pl dx k sz bl gl fs xs W := by
  have nh : hideF (bl :: gl :: foots fs) H L = none := by
    cases e : hideF (bl :: gl :: foots fs) H L with
    | none => rfl
    | some o =>
      rw [hide_same _ _ _ _ e] at n
      cases n
  refine ⟨h.but, h.hx, h.hsz, h.book, h.good, h.hpl, paired_map (fun _ _ _ z => z.more nh) h.past, List.mem_cons_of_mem _ h.pin, h.hbl, h.hgl, h.hfs, fun a ha z => ?_, h.new, h.nd⟩
  rcases List.mem_cons.mp z with z | z
  · simp only [List.mem_cons, List.mem_map] at ha
    rcases ha with y | y | ⟨f, hf, y⟩
    · rw [← z, y, h.hbl] at n; cases n
    · rw [← z, y, h.hgl] at n; cases n
    · obtain ⟨i, hi⟩ := List.mem_iff_getElem?.mp hf
      obtain ⟨S, _, hb⟩ := paired_at h.hfs hi
      rw [← z, ← y, hb.hli] at n; cases n
  · exact h.out a ha z
/-- a list beside the wall is changed -/
theorem WorkAt.put {K : PySem.W.Frag} {as : List Addr} {H0 H : Hp} {L x pl dx k sz bl gl : Addr} {fs : List Fp} {xs l0 l : List V} {W : WallS} (h : WorkAt K as H0 H x pl dx k sz bl gl fs xs W) (hL : hideF (bl :: gl :: foots fs) H L = some (.lst l0)) (inL : L ∈ as) (np : L ≠ pl) (n0 : H0 L = none) :
    WorkAt K as H0 (upd H L (.lst l)) x pl dx k sz bl gl fs xs W ∧ hideF (bl :: gl :: foots fs) (upd H L (.lst l)) L = some (.lst l) ∧ (∀ c o, c ≠ L → hideF (bl :: gl :: foots fs) H c = some o → hideF (bl :: gl :: foots fs) (upd H L (.lst l)) c = some o) := by
  have nL := hide_in hL
  have hid : ∀ c o, c ≠ L → hideF (bl :: gl :: foots fs) H c = some o → hideF (bl :: gl :: foots fs) (upd H L (.lst l)) c = some o := fun c o n e => hide_some (hide_in e) ((upd_ne n).trans (hide_same _ _ _ _ e))
  have b : But [L] (hideF (bl :: gl :: foots fs) H) (hideF (bl :: gl :: foots fs) (upd H L (.lst l))) := fun c o n e => hid c o (by simpa using n) e
  have m : ∀ c ∈ [L], Mut as (hideF (bl :: gl :: foots fs) H) c := fun c hc => .inl (by rw [List.mem_singleton.mp hc]; exact ⟨inL, _, hL⟩)
  have own : ∀ a ∈ bl :: gl :: foots fs, a ≠ L := fun a ha z => nL (z ▸ ha)
  refine ⟨⟨fun c o n e => ?_, ?_, mut_tup m b h.hsz, mut_book m b h.book, h.good, hid _ _ np.symm h.hpl, paired_map (fun _ _ _ z => z.mut m b) h.past, h.pin, (upd_ne (own bl (by simp))).trans h.hbl, (upd_ne (own gl (by simp))).trans h.hgl, ?_, h.out, h.new, h.nd⟩, hide_some nL upd_same, hid⟩
  · rw [upd_ne (fun z => by rw [z, n0] at e; cases e)]
    exact h.but c o n e
  · refine hid _ _ (fun z => ?_) h.hx
    have := h.hx
    rw [z, hL] at this
    cases this
  · exact paired_map (fun f S hf hb => hb.but (as := [L]) ((But.refl _ _).put (.inr (by simp))) fun a ha => by simpa using own a (by simp only [List.mem_cons]; exact .inr (.inr (foots_mem hf ha)))) h.hfs
/-- all boxes, one after the other -/
def tickW (g : BoxS → BoxS × ToldS) (W : WallS) : WallS × List Int := (⟨W.sizes, ⟨W.cur.d, W.cur.rs, W.cur.boxes.map fun S => (g S).1, W.cur.given⟩, W.past ++ [W.cur]⟩, W.cur.boxes.flatMap fun S => (g S).2.letters)
def partW (g : BoxS → BoxS × ToldS) (W : WallS) (i : Nat) : WallS := ⟨W.sizes, ⟨W.cur.d, W.cur.rs, ((W.cur.boxes.take i).map fun S => (g S).1) ++ W.cur.boxes.drop i, W.cur.given⟩, W.past ++ [W.cur]⟩
theorem partW_get {g : BoxS → BoxS × ToldS} {W : WallS} {i : Nat} {S : BoxS} (h : W.cur.boxes[i]? = some S) : (partW g W i).cur.boxes[i]? = some S ∧ setBox (partW g W i) i (g S).1 = partW g W (i + 1) := by
  have hi := (List.getElem?_eq_some_iff.mp h).1
  have hl : ((W.cur.boxes.take i).map fun S => (g S).1).length = i := by rw [List.length_map, List.length_take]; omega
  have ed : W.cur.boxes.drop i = S :: W.cur.boxes.drop (i + 1) := by
    rw [List.drop_eq_getElem_cons hi]
    congr 1
    rw [List.getElem?_eq_getElem hi] at h
    exact Option.some.inj h
  refine ⟨?_, ?_⟩
  · show (((W.cur.boxes.take i).map fun S => (g S).1) ++ W.cur.boxes.drop i)[i]? = some S
    rw [ed, List.getElem?_append_right (by omega), hl, Nat.sub_self]
    rfl
  · unfold setBox partW
    have e : (((W.cur.boxes.take i).map fun S => (g S).1) ++ W.cur.boxes.drop i).set i (g S).1 = ((W.cur.boxes.take (i + 1)).map fun S => (g S).1) ++ W.cur.boxes.drop (i + 1) := by
      rw [ed]
      have := set_mid (A := (W.cur.boxes.take i).map fun S => (g S).1) (B := W.cur.boxes.drop (i + 1)) (f := S) (g := (g S).1)
      rw [hl] at this
      rw [this, take_more h, List.map_append, List.append_assoc]
      rfl
    rw [e]
theorem partW_all {g : BoxS → BoxS × ToldS} {W : WallS} : partW g W W.cur.boxes.length = (tickW g W).1 := by
  unfold partW tickW
  rw [List.take_length, List.drop_length, List.append_nil]
def letsW (g : BoxS → BoxS × ToldS) (W : WallS) (i : Nat) : List Int := (W.cur.boxes.take i).flatMap fun S => (g S).2.letters
theorem letsW_succ {g : BoxS → BoxS × ToldS} {W : WallS} {i : Nat} {S : BoxS} (h : W.cur.boxes[i]? = some S) : letsW g W (i + 1) = letsW g W i ++ (g S).2.letters := by
  unfold letsW
  rw [take_more h, List.flatMap_append]
  simp
section
variable {P : Program} {w : World} {K : PySem.W.Frag} {mg : Str → Option Value} {base : Heap}
def sp_Wall_day (K : PySem.W.Frag) : Sp := fun vs H Q _ => ∃ (x pl : Addr) (as : List Addr) (W : WallS) (n : Nat), vs = [.ref x] ∧ WallAt K as H x pl W ∧ (∀ a ∈ as, H a ≠ none) ∧ WSm W n ∧ (∀ S ∈ W.cur.boxes, (dayF W.cur.d W.cur.rs S).2.letters.length ≤ 100) ∧
  ∀ H' L, But [x, pl] H H' → WallAt K as H' x pl (tickW (dayF W.cur.d W.cur.rs) W).1 → H L = none → H' L = some (.lst ((tickW (dayF W.cur.d W.cur.rs) W).2.map V.int)) → Q (.ref L) H'
set_option maxHeartbeats 2000000 in
theorem ok_Wall_day (T : Txt w K mg) {fd : FuncData} (F : FunD K d_Wall_day.name d_Wall_day.qual d_Wall_day.params d_Wall_day.body d_Wall_day.scope (d_Wall_day.dvs K) (d_Wall_day.kws K) (He.fAd K d_Wall_day.at_) fd) : FnOk P w K mg base C8.CX0 5 (He.fAd K d_Wall_day.at_) fd ["self"] (sp_Wall_day K) := by
  have c_Box_day := c_Box_day (P := P) (w := w) (base := base) T
  have c_Wall_remember := c_Wall_remember (P := P) (w := w) (base := base) T
  refine F.ok sc_Wall_day (fun vs H Q E h => ?_) (fun cdv A outer s H vs Q E hr h => ?_)
  · obtain ⟨x, pl, as, W, n, rfl, _⟩ := h
    rfl
  · have hu := L2.hu_of hr
    obtain ⟨x, pl, as, W, n, rfl, hW, live, sm, hlet, q⟩ := h
    refine ⟨_, (PSs.nox ((pss_cons (ps_expr (C8.pe_mt0 c_Wall_remember hr (by decide) (pv 0)))
  (pss_cons (ps_set (i := 1) sc_Wall_day.nd rfl (by first | exact Or.inl rfl | exact Or.inr rfl) (pe_lst pa_nil))
  (pss_cons (ps_for PassesOwn.never rfl (My.pi_listK (K := K) rfl (My.pe_fldK (K := K) rfl (pv 0) rfl)) (pg_name (i := 2) sc_Wall_day.nd rfl (by first | exact Or.inl rfl | exact Or.inr rfl))
  (pss_one (ps_expr (My.pe_bmK (K := K) rfl PySem.F.plainAttrs_list PySem.F.slot_list_extend PySem.F.type_list_extend mt_extend (pv 1) (pa_cons (My.pe_fldK (K := K) rfl (C8.pe_mt c_Box_day hr (by decide) (pv 2) (pa_cons (My.pe_fldK (K := K) rfl (pv 0) rfl) pa_nil)) rfl) pa_nil)))))
  (pss_one (ps_ret (pv 1)))))))), ?_⟩
    obtain ⟨dx0, _, _, _, _, _, hx0, _⟩ := id hW
    refine ⟨_, rfl, x, dx0, _, rfl, hx0, rfl, x, pl, as, W, rfl, hW, live, sm.b12, Nat.le_trans sm.pas (Nat.le_trans sm.sm (by decide)), fun H2 dx k sz bl gl fs xs hK => ?_⟩
    refine ⟨Nat.zero_le _, fun L nL => ?_⟩
    have yL := same_new (o := .lst []) nL
    have hL1 : upd H2 L (.lst []) L = some (.lst []) := upd_same
    have hK1 := (hK.more nL).same yL
    have n0 : H L = none := hK.fresh (.inl nL)
    have npl : L ≠ pl := fun z => by
      have := hide_same _ _ _ _ hK.hpl
      rw [← z, nL] at this
      cases this
    have LnO : ∀ a ∈ bl :: gl :: foots fs, a ≠ L := fun a ha z => by
      have e : ∃ o, H2 a = some o := by
        simp only [List.mem_cons] at ha
        rcases ha with y | y | y
        · exact ⟨_, by rw [y]; exact hK.hbl⟩
        · exact ⟨_, by rw [y]; exact hK.hgl⟩
        · obtain ⟨f, hf, ha2⟩ := List.mem_flatMap.mp y
          obtain ⟨j, hj⟩ := List.mem_iff_getElem?.mp hf
          obtain ⟨S3, _, hb3⟩ := paired_at hK.hfs hj
          exact hb3.live a ha2
      obtain ⟨o, e⟩ := e
      rw [z, nL] at e
      cases e
    have hLh : hideF (bl :: gl :: foots fs) (upd H2 L (.lst [])) L = some (.lst []) := hide_some (fun z => LnO L z rfl) hL1
    have side1 : ∀ a ∈ L :: as, hideF (bl :: gl :: foots fs) (upd H2 L (.lst [])) a ≠ none := fun a ha e => by
      rcases List.mem_cons.mp ha with z | z
      · rw [z, hLh] at e; cases e
      · cases e2 : hideF (bl :: gl :: foots fs) H2 a with
        | none => exact hK.beside live a z e2
        | some o =>
          rw [hide_some (hide_in e2) (yL _ _ (hide_same _ _ _ _ e2))] at e
          cases e
    have hx1 := hide_same _ _ _ _ hK1.hx
    refine ⟨_, rfl, x, _, dx, _, _, rfl, hx1, T.cl_Wall, T.no_Wall__boxes, rfl, bl, rfl, ⟨_, SqL.of hK1.hbl⟩, ?_⟩
    have hpart0 : WorkAt K (L :: as) H (upd H2 L (.lst [])) x pl dx k sz bl gl fs xs (partW (dayF W.cur.d W.cur.rs) W 0) := hK1
    refine for_list (K := K) (a := bl) (xs := fs.map fun f => V.ref f.b) (fun i σ H' => ∃ (u : Option V) (fs' : List Fp), σ = [some (.ref x), some (.ref L), u] ∧ WorkAt K (L :: as) H H' x pl dx k sz bl gl fs' xs (partW (dayF W.cur.d W.cur.rs) W i) ∧ (fs'.map fun f => V.ref f.b) = (fs.map fun f => V.ref f.b) ∧ hideF (bl :: gl :: foots fs') H' L = some (.lst ((letsW (dayF W.cur.d W.cur.rs) W i).map V.int)) ∧ (∀ a ∈ L :: as, hideF (bl :: gl :: foots fs') H' a ≠ none) ∧ (letsW (dayF W.cur.d W.cur.rs) W i).length ≤ 100 * i)
      ⟨_, fs, rfl, hpart0, rfl, hLh, side1, Nat.zero_le _⟩ (fun i σ H' _ z => ?_) ?_ ?_
    · obtain ⟨_, fs', _, z, ze, _⟩ := z
      have := SqL.of (K := K) z.hbl
      rw [ze] at this
      exact this
    · rintro i y σ H3 hi ⟨u, fs', rfl, hK3, em, hL3, side3, hll⟩
      rw [← em] at hi
      obtain ⟨f, hf, rfl⟩ := map_get hi
      obtain ⟨S, hS, hb⟩ := paired_at hK3.hfs hf
      have hlen : (partW (dayF W.cur.d W.cur.rs) W i).cur.boxes.length = W.cur.boxes.length := by
        show (((W.cur.boxes.take i).map fun S => (dayF W.cur.d W.cur.rs S).1) ++ W.cur.boxes.drop i).length = _
        rw [List.length_append, List.length_map, ← List.length_append, List.take_append_drop]
      have hiW : i < W.cur.boxes.length := by rw [← hlen]; exact (List.getElem?_eq_some_iff.mp hS).1
      have hSW : W.cur.boxes[i]? = some W.cur.boxes[i] := List.getElem?_eq_getElem hiW
      obtain ⟨g1, g2⟩ := partW_get (g := dayF W.cur.d W.cur.rs) hSW
      rw [g1] at hS
      obtain rfl := Option.some.inj hS
      obtain ⟨db, hbx⟩ := hb.hb
      have hx3 := hide_same _ _ _ _ hK3.hx
      have hLr := hide_same _ _ _ _ hL3
      refine ⟨_, rfl, .inl ⟨rfl, _, SqL.of hLr⟩, _, rfl, f.b, db, _, rfl, hbx, rfl, _, rfl, x, _, dx, _, _, rfl, hx3, T.cl_Wall, T.no_Wall__book, rfl, ?_⟩
      refine ⟨hideF f.all H3, f.b, k, W.cur.d, W.cur.rs, W.cur.boxes[i], n, rfl, hb.bx, hK3.book.same (hK3.side (List.mem_of_getElem? hf)), hK3.good, sm.bd _ (List.mem_of_getElem? hSW), Nat.lt_of_le_of_lt sm.sm (by decide), fun H4 t4 hB => ?_⟩
      obtain ⟨fs2, ll, lg, hK4, ⟨dt, yb, lw, lm, ht4, hll4, hlg4⟩, nt4, nll4, nlg4, nlr, apart, em2, hid, _⟩ := hK3.op side3 hf g1 hB
      have hL4 := hid _ _ hL3
      refine ⟨t4, _, dt, _, _, rfl, ht4, T.cl_Told, T.no_Told_letters, rfl, L, ll, _, _, rfl, rfl, hide_same _ _ _ _ hL4, hll4, ?_, ?_⟩
      · rw [List.length_map, List.length_map]
        have := hlet _ (List.mem_of_getElem? hSW)
        have := sm.b12
        exact Nat.le_of_lt (lt_line (by omega))
      · obtain ⟨hK5, hL5, hid5⟩ := hK4.put (l := (letsW (dayF W.cur.d W.cur.rs) W i).map V.int ++ (dayF W.cur.d W.cur.rs W.cur.boxes[i]).2.letters.map V.int) hL4 (by simp) npl n0
        rw [g2] at hK5
        refine ⟨_, fs2, rfl, hK5, em2.trans em, by rw [letsW_succ hSW, List.map_append]; exact hL5, fun a ha e => ?_, ?_⟩
        · by_cases z : a = L
          · rw [z, hL5] at e; cases e
          · cases e2 : hideF (bl :: gl :: foots fs') H3 a with
            | none => exact side3 a ha e2
            | some o =>
              rw [hid5 _ _ z (hid _ _ e2)] at e
              cases e
        · rw [letsW_succ hSW, List.length_append]
          have := hlet _ (List.mem_of_getElem? hSW)
          omega
    · rintro σ H3 ⟨u, fs', rfl, hK3, em, hL3, side3, hll⟩
      rw [List.length_map, hK.hfs.length] at hK3 hL3
      have e1 : partW (dayF W.cur.d W.cur.rs) W (remW W).cur.boxes.length = (tickW (dayF W.cur.d W.cur.rs) W).1 := partW_all
      have e2 : letsW (dayF W.cur.d W.cur.rs) W (remW W).cur.boxes.length = (tickW (dayF W.cur.d W.cur.rs) W).2 := by
        unfold letsW
        show (W.cur.boxes.take W.cur.boxes.length).flatMap _ = _
        rw [List.take_length]
        rfl
      rw [e1] at hK3
      rw [e2] at hL3
      exact ⟨_, rfl, q _ L hK3.but (hK3.wall.less (fun a ha => List.mem_cons_of_mem _ ha) hK.pin) n0 (hide_same _ _ _ _ hL3)⟩
theorem c_Wall_day (T : Txt w K mg) : C8.Met P w K mg base 5 (He.ga K "Wall") "day" (sp_Wall_day K) [] := by
  obtain ⟨fd, F⟩ := T.f_Wall_day
  exact ⟨_, fd, _, _, T.cl_Wall, T.m_Wall_day, ok_Wall_day T F, F.bindsN (fun _ _ _ _ _ _ us hl => match us, hl with | [_], _ => rfl), .nil⟩
def sp_Wall_power (K : PySem.W.Frag) : Sp := fun vs H Q _ => ∃ (x pl : Addr) (as : List Addr) (W : WallS) (n : Nat), vs = [.ref x] ∧ WallAt K as H x pl W ∧ (∀ a ∈ as, H a ≠ none) ∧ WSm W n ∧ (∀ S ∈ W.cur.boxes, (powerF W.cur.rs S).2.letters.length ≤ 100) ∧
  ∀ H' L, But [x, pl] H H' → WallAt K as H' x pl (tickW (powerF W.cur.rs) W).1 → H L = none → H' L = some (.lst ((tickW (powerF W.cur.rs) W).2.map V.int)) → Q (.ref L) H'
set_option maxHeartbeats 2000000 in
theorem ok_Wall_power (T : Txt w K mg) {fd : FuncData} (F : FunD K d_Wall_power.name d_Wall_power.qual d_Wall_power.params d_Wall_power.body d_Wall_power.scope (d_Wall_power.dvs K) (d_Wall_power.kws K) (He.fAd K d_Wall_power.at_) fd) : FnOk P w K mg base C8.CX0 5 (He.fAd K d_Wall_power.at_) fd ["self"] (sp_Wall_power K) := by
  have c_Box_power := c_Box_power (P := P) (w := w) (base := base) T
  have c_Wall_remember := c_Wall_remember (P := P) (w := w) (base := base) T
  refine F.ok sc_Wall_power (fun vs H Q E h => ?_) (fun cdv A outer s H vs Q E hr h => ?_)
  · obtain ⟨x, pl, as, W, n, rfl, _⟩ := h
    rfl
  · have hu := L2.hu_of hr
    obtain ⟨x, pl, as, W, n, rfl, hW, live, sm, hlet, q⟩ := h
    refine ⟨_, (PSs.nox ((pss_cons (ps_expr (C8.pe_mt0 c_Wall_remember hr (by decide) (pv 0)))
  (pss_cons (ps_set (i := 1) sc_Wall_power.nd rfl (by first | exact Or.inl rfl | exact Or.inr rfl) (pe_lst pa_nil))
  (pss_cons (ps_for PassesOwn.never rfl (My.pi_listK (K := K) rfl (My.pe_fldK (K := K) rfl (pv 0) rfl)) (pg_name (i := 2) sc_Wall_power.nd rfl (by first | exact Or.inl rfl | exact Or.inr rfl))
  (pss_one (ps_expr (My.pe_bmK (K := K) rfl PySem.F.plainAttrs_list PySem.F.slot_list_extend PySem.F.type_list_extend mt_extend (pv 1) (pa_cons (My.pe_fldK (K := K) rfl (C8.pe_mt c_Box_power hr (by decide) (pv 2) (pa_cons (My.pe_fldK (K := K) rfl (pv 0) rfl) pa_nil)) rfl) pa_nil)))))
  (pss_one (ps_ret (pv 1)))))))), ?_⟩
    obtain ⟨dx0, _, _, _, _, _, hx0, _⟩ := id hW
    refine ⟨_, rfl, x, dx0, _, rfl, hx0, rfl, x, pl, as, W, rfl, hW, live, sm.b12, Nat.le_trans sm.pas (Nat.le_trans sm.sm (by decide)), fun H2 dx k sz bl gl fs xs hK => ?_⟩
    refine ⟨Nat.zero_le _, fun L nL => ?_⟩
    have yL := same_new (o := .lst []) nL
    have hL1 : upd H2 L (.lst []) L = some (.lst []) := upd_same
    have hK1 := (hK.more nL).same yL
    have n0 : H L = none := hK.fresh (.inl nL)
    have npl : L ≠ pl := fun z => by
      have := hide_same _ _ _ _ hK.hpl
      rw [← z, nL] at this
      cases this
    have LnO : ∀ a ∈ bl :: gl :: foots fs, a ≠ L := fun a ha z => by
      have e : ∃ o, H2 a = some o := by
        simp only [List.mem_cons] at ha
        rcases ha with y | y | y
        · exact ⟨_, by rw [y]; exact hK.hbl⟩
        · exact ⟨_, by rw [y]; exact hK.hgl⟩
        · obtain ⟨f, hf, ha2⟩ := List.mem_flatMap.mp y
          obtain ⟨j, hj⟩ := List.mem_iff_getElem?.mp hf
          obtain ⟨S3, _, hb3⟩ := paired_at hK.hfs hj
          exact hb3.live a ha2
      obtain ⟨o, e⟩ := e
      rw [z, nL] at e
      cases e
    have hLh : hideF (bl :: gl :: foots fs) (upd H2 L (.lst [])) L = some (.lst []) := hide_some (fun z => LnO L z rfl) hL1
    have side1 : ∀ a ∈ L :: as, hideF (bl :: gl :: foots fs) (upd H2 L (.lst [])) a ≠ none := fun a ha e => by
      rcases List.mem_cons.mp ha with z | z
      · rw [z, hLh] at e; cases e
      · cases e2 : hideF (bl :: gl :: foots fs) H2 a with
        | none => exact hK.beside live a z e2
        | some o =>
          rw [hide_some (hide_in e2) (yL _ _ (hide_same _ _ _ _ e2))] at e
          cases e
    have hx1 := hide_same _ _ _ _ hK1.hx
    refine ⟨_, rfl, x, _, dx, _, _, rfl, hx1, T.cl_Wall, T.no_Wall__boxes, rfl, bl, rfl, ⟨_, SqL.of hK1.hbl⟩, ?_⟩
    have hpart0 : WorkAt K (L :: as) H (upd H2 L (.lst [])) x pl dx k sz bl gl fs xs (partW (powerF W.cur.rs) W 0) := hK1
    refine for_list (K := K) (a := bl) (xs := fs.map fun f => V.ref f.b) (fun i σ H' => ∃ (u : Option V) (fs' : List Fp), σ = [some (.ref x), some (.ref L), u] ∧ WorkAt K (L :: as) H H' x pl dx k sz bl gl fs' xs (partW (powerF W.cur.rs) W i) ∧ (fs'.map fun f => V.ref f.b) = (fs.map fun f => V.ref f.b) ∧ hideF (bl :: gl :: foots fs') H' L = some (.lst ((letsW (powerF W.cur.rs) W i).map V.int)) ∧ (∀ a ∈ L :: as, hideF (bl :: gl :: foots fs') H' a ≠ none) ∧ (letsW (powerF W.cur.rs) W i).length ≤ 100 * i)
      ⟨_, fs, rfl, hpart0, rfl, hLh, side1, Nat.zero_le _⟩ (fun i σ H' _ z => ?_) ?_ ?_
    · obtain ⟨_, fs', _, z, ze, _⟩ := z
      have := SqL.of (K := K) z.hbl
      rw [ze] at this
      exact this
    · rintro i y σ H3 hi ⟨u, fs', rfl, hK3, em, hL3, side3, hll⟩
      rw [← em] at hi
      obtain ⟨f, hf, rfl⟩ := map_get hi
      obtain ⟨S, hS, hb⟩ := paired_at hK3.hfs hf
      have hlen : (partW (powerF W.cur.rs) W i).cur.boxes.length = W.cur.boxes.length := by
        show (((W.cur.boxes.take i).map fun S => (powerF W.cur.rs S).1) ++ W.cur.boxes.drop i).length = _
        rw [List.length_append, List.length_map, ← List.length_append, List.take_append_drop]
      have hiW : i < W.cur.boxes.length := by rw [← hlen]; exact (List.getElem?_eq_some_iff.mp hS).1
      have hSW : W.cur.boxes[i]? = some W.cur.boxes[i] := List.getElem?_eq_getElem hiW
      obtain ⟨g1, g2⟩ := partW_get (g := powerF W.cur.rs) hSW
      rw [g1] at hS
      obtain rfl := Option.some.inj hS
      obtain ⟨db, hbx⟩ := hb.hb
      have hx3 := hide_same _ _ _ _ hK3.hx
      have hLr := hide_same _ _ _ _ hL3
      refine ⟨_, rfl, .inl ⟨rfl, _, SqL.of hLr⟩, _, rfl, f.b, db, _, rfl, hbx, rfl, _, rfl, x, _, dx, _, _, rfl, hx3, T.cl_Wall, T.no_Wall__book, rfl, ?_⟩
      refine ⟨hideF f.all H3, f.b, k, W.cur.d, W.cur.rs, W.cur.boxes[i], n, rfl, hb.bx, hK3.book.same (hK3.side (List.mem_of_getElem? hf)), hK3.good, sm.bd _ (List.mem_of_getElem? hSW), Nat.lt_of_le_of_lt sm.sm (by decide), fun H4 t4 hB => ?_⟩
      obtain ⟨fs2, ll, lg, hK4, ⟨dt, yb, lw, lm, ht4, hll4, hlg4⟩, nt4, nll4, nlg4, nlr, apart, em2, hid, _⟩ := hK3.op side3 hf g1 hB
      have hL4 := hid _ _ hL3
      refine ⟨t4, _, dt, _, _, rfl, ht4, T.cl_Told, T.no_Told_letters, rfl, L, ll, _, _, rfl, rfl, hide_same _ _ _ _ hL4, hll4, ?_, ?_⟩
      · rw [List.length_map, List.length_map]
        have := hlet _ (List.mem_of_getElem? hSW)
        have := sm.b12
        exact Nat.le_of_lt (lt_line (by omega))
      · obtain ⟨hK5, hL5, hid5⟩ := hK4.put (l := (letsW (powerF W.cur.rs) W i).map V.int ++ (powerF W.cur.rs W.cur.boxes[i]).2.letters.map V.int) hL4 (by simp) npl n0
        rw [g2] at hK5
        refine ⟨_, fs2, rfl, hK5, em2.trans em, by rw [letsW_succ hSW, List.map_append]; exact hL5, fun a ha e => ?_, ?_⟩
        · by_cases z : a = L
          · rw [z, hL5] at e; cases e
          · cases e2 : hideF (bl :: gl :: foots fs') H3 a with
            | none => exact side3 a ha e2
            | some o =>
              rw [hid5 _ _ z (hid _ _ e2)] at e
              cases e
        · rw [letsW_succ hSW, List.length_append]
          have := hlet _ (List.mem_of_getElem? hSW)
          omega
    · rintro σ H3 ⟨u, fs', rfl, hK3, em, hL3, side3, hll⟩
      rw [List.length_map, hK.hfs.length] at hK3 hL3
      have e1 : partW (powerF W.cur.rs) W (remW W).cur.boxes.length = (tickW (powerF W.cur.rs) W).1 := partW_all
      have e2 : letsW (powerF W.cur.rs) W (remW W).cur.boxes.length = (tickW (powerF W.cur.rs) W).2 := by
        unfold letsW
        show (W.cur.boxes.take W.cur.boxes.length).flatMap _ = _
        rw [List.take_length]
        rfl
      rw [e1] at hK3
      rw [e2] at hL3
      exact ⟨_, rfl, q _ L hK3.but (hK3.wall.less (fun a ha => List.mem_cons_of_mem _ ha) hK.pin) n0 (hide_same _ _ _ _ hL3)⟩
theorem c_Wall_power (T : Txt w K mg) : C8.Met P w K mg base 5 (He.ga K "Wall") "power" (sp_Wall_power K) [] := by
  obtain ⟨fd, F⟩ := T.f_Wall_power
  exact ⟨_, fd, _, _, T.cl_Wall, T.m_Wall_power, ok_Wall_power T F, F.bindsN (fun _ _ _ _ _ _ us hl => match us, hl with | [_], _ => rfl), .nil⟩
end
end K67

namespace K67
open PySem PySem.Spec PyProof.Rows L2 My StX
/-- the box as the walk keeps it: a list of six; none of its lists is one of these -/
def LB5 (as : List Addr) (H : Hp) (bx : Addr) (S : BoxS) : Prop := ∃ (l1 l3 : Addr) (ys : List Int), H bx = some (.lst [.bl S.ajar, .ref l1, .str S.tf, .ref l3, oV S.age, oV S.last]) ∧ H l1 = some (.lst (S.inside.map V.int)) ∧ H l3 = some (.lst (ys.map V.int)) ∧ ys.Perm S.valid ∧ ys.Pairwise (· ≤ ·) ∧
  l1 ≠ bx ∧ l3 ≠ bx ∧ S.valid.Nodup ∧ l1 ∉ as ∧ l3 ∉ as
theorem LB5.same {as : List Addr} {H H' : Hp} {bx : Addr} {S : BoxS} (s : Same H H') (h : LB5 as H bx S) : LB5 as H' bx S := by
  obtain ⟨l1, l3, ys, h1, h2, h3, r⟩ := h
  exact ⟨l1, l3, ys, s _ _ h1, s _ _ h2, s _ _ h3, r⟩
section
variable {P : Program} {w : World} {K : PySem.W.Frag} {mg : Str → Option Value} {base : Heap}
def sp_law_carry (K : PySem.W.Frag) : Sp := fun vs H Q _ => ∃ (bx t1 L : Addr) (r : RuleL) (S : BoxS) (ls : List Int) (as : List Addr) (n : Nat), vs = [.ref t1, .ref bx, .ref L] ∧ RuleAt K H t1 r ∧ r.length ≤ 6 ∧ LB5 as H bx S ∧ L ∈ as ∧ L ≠ bx ∧ H L = some (.lst (ls.map V.int)) ∧ (∀ x ∈ as, H x ≠ none) ∧ Bd n (S, T0) ∧ n ≤ 100000 ∧ ls.length ≤ 100000 ∧
  ∀ (H' : Hp), But [bx, L] H H' → LB5 as H' bx (r.foldl act (S, T0)).1 → H' L = some (.lst ((ls ++ (r.foldl act (S, T0)).2.letters).map V.int)) → Q .non H'
end
end K67

namespace K67
open PySem PySem.Spec PyProof.Rows L2 My StX
/-- the rules as the law keeps them: a list of tuples -/
def RulesAt (K : PySem.W.Frag) (H : Hp) (rl : Addr) (rs : List RuleL) : Prop := ∃ qs : List Addr, H rl = some (.lst (qs.map V.ref)) ∧ Paired (RuleAt K H) qs rs
theorem RulesAt.but {K : PySem.W.Frag} {cs : List Addr} {H H' : Hp} {rl : Addr} {rs : List RuleL} (s : But cs H H') (hc : ∀ c ∈ cs, ∃ l, H c = some (.lst l)) (n : rl ∉ cs) (h : RulesAt K H rl rs) : RulesAt K H' rl rs := by
  obtain ⟨qs, h1, h2⟩ := h
  have m : ∀ c ∈ cs, Mut cs H c := fun c hc2 => .inl ⟨hc2, hc c hc2⟩
  exact ⟨qs, s _ _ n h1, paired_map (fun _ _ _ x => mut_tup m s x) h2⟩
theorem RulesAt.same {K : PySem.W.Frag} {H H' : Hp} {rl : Addr} {rs : List RuleL} (s : Same H H') (h : RulesAt K H rl rs) : RulesAt K H' rl rs := h.but (But.of (as := []) s) (fun c hc => by cases hc) (by simp)
theorem RulesAt.get {K : PySem.W.Frag} {H : Hp} {rl : Addr} {rs : List RuleL} (g : GoodB rs) (h : RulesAt K H rl rs) {i : Nat} (hi : i < 8) : ∃ (qs : List Addr) (t : Addr), H rl = some (.lst (qs.map V.ref)) ∧ qs[i]? = some t ∧ RuleAt K H t (at_ rs i) := by
  obtain ⟨qs, h1, h2⟩ := h
  obtain ⟨t, ht, hr⟩ := paired_get h2 (g.get hi)
  exact ⟨qs, t, h1, ht, hr⟩
section
variable {P : Program} {w : World} {K : PySem.W.Frag} {mg : Str → Option Value} {base : Heap}
def sp_law_shut (K : PySem.W.Frag) : Sp := fun vs H Q _ => ∃ (bx rl L : Addr) (i1 : Nat) (s : Bool) (rs : List RuleL) (S : BoxS) (ls : List Int) (as : List Addr) (n : Nat), vs = [.ref rl, .ref bx, .bl s, .int (i1 : Int), .ref L] ∧ RulesAt K H rl rs ∧ rl ≠ bx ∧ rl ≠ L ∧ GoodB rs ∧ i1 + 1 < 8 ∧ LB5 as H bx S ∧ L ∈ as ∧ L ≠ bx ∧ H L = some (.lst (ls.map V.int)) ∧ (∀ x ∈ as, H x ≠ none) ∧ Bd n (S, T0) ∧ n ≤ 100000 ∧ ls.length ≤ 100000 ∧
  ∀ (H' : Hp), But [bx, L] H H' → LB5 as H' bx (leaveF rs s i1 (i1 + 1) S).1 → H' L = some (.lst ((ls ++ (leaveF rs s i1 (i1 + 1) S).2.letters).map V.int)) → Q .non H'
end
end K67

namespace K67
open PySem PySem.Spec PyProof.Rows L2 My StX
theorem sq_in {t u : TS} {D : Ends} {σ : L2.St} {H : Hp} (q : t { D with nx := u D } σ H) : tSeq t u D σ H := q
section
variable {K : PySem.W.Frag} {σ : L2.St} {H : Hp} {hd wq : Str} {tt : TT} {tb te : TS} {D : Ends} {t : Addr} {vs : List V}
theorem dq_no (g3 : σ[3]? = some (some (V.ref t))) (ht : SqT K H t vs) (hw : vs[0]? = some (.str hd)) (ne : hd ≠ wq) (q : te D σ H) : tIfS (tAnd (tTest (tOp rEq (tOp (rIxT K) (tVar 3) (tC (V.int 0))) (tC (V.str wq)))) tt) tb te D σ H := by
  refine ⟨_, g3, t, _, ((0 : Nat) : Int), _, rfl, rfl, ht, atI_nat hw, rfl, _, rfl, ?_⟩
  rw [str_eqF ne]
  exact q
theorem dq_yes (g3 : σ[3]? = some (some (V.ref t))) (ht : SqT K H t vs) (hw : vs[0]? = some (.str hd)) (e : hd = wq) (q : tt σ H fun b H1 => if b = true then tb D σ H1 else te D σ H1) : tIfS (tAnd (tTest (tOp rEq (tOp (rIxT K) (tVar 3) (tC (V.int 0))) (tC (V.str wq)))) tt) tb te D σ H := by
  refine ⟨_, g3, t, _, ((0 : Nat) : Int), _, rfl, rfl, ht, atI_nat hw, rfl, _, rfl, ?_⟩
  rw [str_eqT e]
  exact q
theorem dp_no (g3 : σ[3]? = some (some (V.ref t))) (ht : SqT K H t vs) (hw : vs[0]? = some (.str hd)) (ne : hd ≠ wq) (q : te D σ H) : tIfS (tTest (tOp rEq (tOp (rIxT K) (tVar 3) (tC (V.int 0))) (tC (V.str wq)))) tb te D σ H := by
  refine ⟨_, g3, t, _, ((0 : Nat) : Int), _, rfl, rfl, ht, atI_nat hw, rfl, _, rfl, ?_⟩
  rw [str_eqF ne]
  exact q
theorem dp_yes (g3 : σ[3]? = some (some (V.ref t))) (ht : SqT K H t vs) (hw : vs[0]? = some (.str hd)) (e : hd = wq) (q : tb D σ H) : tIfS (tTest (tOp rEq (tOp (rIxT K) (tVar 3) (tC (V.int 0))) (tC (V.str wq)))) tb te D σ H := by
  refine ⟨_, g3, t, _, ((0 : Nat) : Int), _, rfl, rfl, ht, atI_nat hw, rfl, _, rfl, ?_⟩
  rw [str_eqT e]
  exact q
end
theorem nBC : ("bring" : Str) ≠ "code" := by decide +kernel
theorem nBP : ("bring" : Str) ≠ "pass" := by decide +kernel
theorem nBD : ("bring" : Str) ≠ "day" := by decide +kernel
theorem nBW : ("bring" : Str) ≠ "power" := by decide +kernel
theorem nCB : ("code" : Str) ≠ "bring" := by decide +kernel
theorem nCP : ("code" : Str) ≠ "pass" := by decide +kernel
theorem nCD : ("code" : Str) ≠ "day" := by decide +kernel
theorem nCW : ("code" : Str) ≠ "power" := by decide +kernel
theorem nPB : ("pass" : Str) ≠ "bring" := by decide +kernel
theorem nPC : ("pass" : Str) ≠ "code" := by decide +kernel
theorem nPD : ("pass" : Str) ≠ "day" := by decide +kernel
theorem nPW : ("pass" : Str) ≠ "power" := by decide +kernel
theorem nDB : ("day" : Str) ≠ "bring" := by decide +kernel
theorem nDC : ("day" : Str) ≠ "code" := by decide +kernel
theorem nDP : ("day" : Str) ≠ "pass" := by decide +kernel
theorem nDW : ("day" : Str) ≠ "power" := by decide +kernel
theorem nWB : ("power" : Str) ≠ "bring" := by decide +kernel
theorem nWC : ("power" : Str) ≠ "code" := by decide +kernel
theorem nWP : ("power" : Str) ≠ "pass" := by decide +kernel
theorem nWD : ("power" : Str) ≠ "day" := by decide +kernel
/-- a report as the walk tells it, none of whose lists is one of these -/
def Rep5 (as : List Addr) (H : Hp) (p : Addr) (U : ToldS) : Prop := ∃ e1 e2, H p = some (.tup [.ref e1, .bl U.opened, .ref e2]) ∧ H e1 = some (.lst (U.letters.map V.int)) ∧ H e2 = some (.lst (U.got.map V.int)) ∧ e1 ∉ as ∧ e2 ∉ as
def wordD : Deed → Str
  | .bring _ _ => "bring"
  | .code _ _ _ => "code"
  | .pass => "pass"
  | .day => "day"
  | .power => "power"
theorem word_at (dd : Deed) : dd.vs[0]? = some (.str (wordD dd)) := by cases dd <;> rfl
theorem LB5.new {as : List Addr} {H : Hp} {bx L : Addr} {S : BoxS} (h : LB5 as H bx S) (hL : H L = none) : LB5 (L :: as) H bx S := by
  obtain ⟨l1, l3, ys, h1, h2, h3, h4, h5, h6, h7, h8, h10, h11⟩ := h
  refine ⟨l1, l3, ys, h1, h2, h3, h4, h5, h6, h7, h8, fun z => ?_, fun z => ?_⟩
  · rcases List.mem_cons.mp z with z | z
    · exact ne_of_none h2 hL z
    · exact h10 z
  · rcases List.mem_cons.mp z with z | z
    · exact ne_of_none h3 hL z
    · exact h11 z
theorem LB5.less {as : List Addr} {H : Hp} {bx L : Addr} {S : BoxS} (h : LB5 (L :: as) H bx S) : LB5 as H bx S := by
  obtain ⟨l1, l3, ys, h1, h2, h3, h4, h5, h6, h7, h8, h10, h11⟩ := h
  exact ⟨l1, l3, ys, h1, h2, h3, h4, h5, h6, h7, h8, fun z => h10 (List.mem_cons_of_mem _ z), fun z => h11 (List.mem_cons_of_mem _ z)⟩
/-- where the walk stands amid a report -/
structure St6 (K : PySem.W.Frag) (as : List Addr) (bx rl t L G : Addr) (rs : List RuleL) (dd : Deed) (S : BoxS) (ls gs : List Int) (H : Hp) : Prop where
  b : LB5 (L :: as) H bx S
  r : RulesAt K H rl rs
  rb : rl ≠ bx
  rL : rl ≠ L
  act : SqT K H t dd.vs
  hL : H L = some (.lst (ls.map V.int))
  hG : H G = some (.lst (gs.map V.int))
  ga : G ∉ as
  gb : G ≠ bx
  gl : G ≠ L
  lb : L ≠ bx
  has : ∀ x ∈ L :: as, H x ≠ none
theorem St6.same {K : PySem.W.Frag} {as : List Addr} {bx rl t L G : Addr} {rs : List RuleL} {dd : Deed} {S : BoxS} {ls gs : List Int} {H H' : Hp} (h : St6 K as bx rl t L G rs dd S ls gs H) (y : Same H H') : St6 K as bx rl t L G rs dd S ls gs H' :=
  ⟨h.b.same y, h.r.same y, h.rb, h.rL, same_tup y h.act, y _ _ h.hL, y _ _ h.hG, h.ga, h.gb, h.gl, h.lb, fun x hx e => h.has x hx (y.free e)⟩
/-- behind a call that changes the box and the letters -/
theorem St6.call {K : PySem.W.Frag} {as : List Addr} {bx rl t L G : Addr} {rs : List RuleL} {dd : Deed} {S S2 : BoxS} {ls ls2 gs : List Int} {H H' : Hp} (h : St6 K as bx rl t L G rs dd S ls gs H) (b : But [bx, L] H H') (hb : LB5 (L :: as) H' bx S2) (hL : H' L = some (.lst (ls2.map V.int))) : St6 K as bx rl t L G rs dd S2 ls2 gs H' := by
  obtain ⟨_, _, _, hbx, _⟩ := h.b
  refine ⟨hb, h.r.but b (fun c hc => ?_) (by simp [h.rb, h.rL]), h.rb, h.rL, tupB b hbx h.hL h.act, hL, b _ _ (by simp [h.gb, h.gl]) h.hG, h.ga, h.gb, h.gl, h.lb, fun x hx e => ?_⟩
  · simp only [List.mem_cons, List.not_mem_nil, or_false] at hc
    rcases hc with rfl | rfl
    · exact ⟨_, hbx⟩
    · exact ⟨_, h.hL⟩
  rcases List.mem_cons.mp hx with z | z
  · rw [z, hL] at e; cases e
  · by_cases xb : x = bx
    · obtain ⟨_, _, _, hbx', _⟩ := hb
      rw [xb, hbx'] at e
      cases e
    · by_cases xl : x = L
      · rw [xl, hL] at e; cases e
      · cases hh : H x with
        | none => exact h.has x hx hh
        | some o => rw [b _ _ (by simp [xb, xl]) hh] at e; cases e
/-- the taken ones are told in another list -/
theorem St6.reG {K : PySem.W.Frag} {as : List Addr} {bx rl t L G G2 : Addr} {rs : List RuleL} {dd : Deed} {S : BoxS} {ls gs gs2 : List Int} {H : Hp} (h : St6 K as bx rl t L G rs dd S ls gs H) (e : H G2 = some (.lst (gs2.map V.int))) (a : G2 ∉ L :: as) (b : G2 ≠ bx) : St6 K as bx rl t L G2 rs dd S ls gs2 H :=
  ⟨h.b, h.r, h.rb, h.rL, h.act, h.hL, e, fun z => a (List.mem_cons_of_mem _ z), b, fun z => a (by rw [z]; exact List.mem_cons_self ..), h.lb, h.has⟩
/-- behind a change of the box itself -/
theorem St6.put {K : PySem.W.Frag} {as : List Addr} {bx rl t L G : Addr} {rs : List RuleL} {dd : Deed} {S S2 : BoxS} {ls gs : List Int} {H : Hp} {o : HO} (h : St6 K as bx rl t L G rs dd S ls gs H) (hb : LB5 (L :: as) (upd H bx o) bx S2) : St6 K as bx rl t L G rs dd S2 ls gs (upd H bx o) :=
  h.call ((But.refl _ _).put (.inr (by simp))) hb ((upd_ne h.lb).trans h.hL)
section
variable {P : Program} {w : World} {K : PySem.W.Frag} {mg : Str → Option Value} {base : Heap}
def sp_law_done (K : PySem.W.Frag) : Sp := fun vs H Q _ => ∃ (bx rl t : Addr) (d num : Int) (rs : List RuleL) (S : BoxS) (as : List Addr) (n : Nat) (dd : Deed), vs = [.ref rl, .int d, .ref bx, .ref t, .int num] ∧ RulesAt K H rl rs ∧ rl ≠ bx ∧ GoodB rs ∧
  LB5 as H bx S ∧ (∀ x ∈ as, H x ≠ none) ∧ SqT K H t dd.vs ∧ Bd n (S, T0) ∧ n ≤ 90000 ∧
  ∀ (H' : Hp) (r : Addr), But [bx] H H' → LB5 as H' bx (doF rs d num dd S).1 → Rep5 as H' r (doF rs d num dd S).2 → H r = none → Q (.ref r) H'
theorem carry_do {σ : L2.St} {D : Ends} {as : List Addr} {bx rl t L G : Addr} {rs : List RuleL} {dd : Deed} {S : BoxS} {ls gs : List Int} {H : Hp} {n : Nat} (i0 : Nat) (h8 : i0 < 8) (g0 : σ[0]? = some (some (V.ref rl))) (g2 : σ[2]? = some (some (V.ref bx))) (g5 : σ[5]? = some (some (V.ref L)))
    (c : St6 K as bx rl t L G rs dd S ls gs H) (hg : GoodB rs) (bd : Bd n (S, T0)) (hn : n ≤ 100000) (hl : ls.length ≤ 100000)
    (q : ∀ H', But [bx, L] H H' → St6 K as bx rl t L G rs dd ((at_ rs i0).foldl act (S, T0)).1 (ls ++ ((at_ rs i0).foldl act (S, T0)).2.letters) gs H' → D.nx σ H') :
    tDrop (tCall (sp_law_carry K) [] C8.E0 (tCons (tOp (rIxL K) (tVar 0) (tC (V.int (i0 : Int)))) (tCons (tVar 2) (tCons (tVar 5) tNil)))) D σ H := by
  obtain ⟨qs, t1, hq, ht1, hr⟩ := c.r.get hg h8
  exact ⟨_, g0, rl, _, _, _, rfl, rfl, SqL.of hq, atI_nat (by rw [List.getElem?_map, ht1]; rfl), _, g2, _, g5, bx, t1, L, at_ rs i0, S, ls, L :: as, n, rfl, hr, hg.six h8, c.b, List.mem_cons_self .., c.lb, c.hL, c.has, bd, hn, hl, fun H' b hb hL => q H' b (c.call b hb hL)⟩
theorem shut_do {σ : L2.St} {D : Ends} {as : List Addr} {bx rl t L G : Addr} {rs : List RuleL} {dd : Deed} {S : BoxS} {ls gs : List Int} {H : Hp} {n : Nat} {sh : Bool} (jx i1 : Nat) (h8 : i1 + 1 < 8) (g0 : σ[0]? = some (some (V.ref rl))) (g2 : σ[2]? = some (some (V.ref bx))) (g3 : σ[3]? = some (some (V.ref t))) (g5 : σ[5]? = some (some (V.ref L)))
    (c : St6 K as bx rl t L G rs dd S ls gs H) (hg : GoodB rs) (bd : Bd n (S, T0)) (hn : n ≤ 100000) (hl : ls.length ≤ 100000) (hj : dd.vs[jx]? = some (.bl sh))
    (q : ∀ H', But [bx, L] H H' → St6 K as bx rl t L G rs dd (leaveF rs sh i1 (i1 + 1) S).1 (ls ++ (leaveF rs sh i1 (i1 + 1) S).2.letters) gs H' → D.nx σ H') :
    tDrop (tCall (sp_law_shut K) [] C8.E0 (tCons (tVar 0) (tCons (tVar 2) (tCons (tOp (rIxT K) (tVar 3) (tC (V.int (jx : Int)))) (tCons (tC (V.int (i1 : Int))) (tCons (tVar 5) tNil)))))) D σ H :=
  ⟨_, g0, _, g2, _, g3, t, _, (jx : Int), _, rfl, rfl, c.act, atI_nat hj, _, g5, bx, rl, L, i1, sh, rs, S, ls, L :: as, n, rfl, c.r, c.rb, c.rL, hg, h8, c.b, List.mem_cons_self .., c.lb, c.hL, c.has, bd, hn, hl, fun H' b hb hL => q H' b (c.call b hb hL)⟩
end
end K67

namespace K67
open PySem PySem.Spec PyProof.Rows L2 My StX
/-! ### the same: two values that lay the same data -/
section
variable {P : Program} {w : World} {K : PySem.W.Frag} {mg : Str → Option Value} {base : Heap}
def spr_law_same (K : PySem.W.Frag) (n : Nat) : Sp := fun vs H Q _ => ∃ (x y : V) (d : PyData), vs = [x, y] ∧ Dp K H x d ∧ Dp K H y d ∧ Sized n d ∧ ∀ H', Same H H' → Q (.bl true) H'
theorem no_law_same (K : PySem.W.Frag) {vs : List V} {H : Hp} {Q : VK} {E : XK} : ¬ spr_law_same K 0 vs H Q E := fun ⟨_, _, d, _, _, _, h, _⟩ => by
  cases d <;> exact h
def sp_law_same (K : PySem.W.Frag) : Sp := spr_law_same K 5
end
end K67

namespace K67
open PySem PySem.Spec PyProof.Rows L2 My StX
/-! ### the law's own wall -/
structure RmAt (as : List Addr) (H : Hp) (rm hm : Addr) (bxs : List Addr) (boxes : List BoxS) (given : List (Option Nat)) : Prop where
  hrm : H rm = some (.lst (bxs.map V.ref))
  hhm : H hm = some (.lst (given.map giV))
  rooms : Paired (LB5 as H) bxs boxes
  nd : (hm :: bxs).Nodup
  inA : ∀ a ∈ hm :: bxs, a ∈ as
  out : rm ∉ as
theorem LB5.but {as cs : List Addr} {H H' : Hp} {bx : Addr} {S : BoxS} (b : But cs H H') (sub : ∀ c ∈ cs, c ∈ as) (n : bx ∉ cs) (h : LB5 as H bx S) : LB5 as H' bx S := by
  obtain ⟨l1, l3, ys, h1, h2, h3, h4, h5, h6, h7, h8, h9, h10⟩ := h
  exact ⟨l1, l3, ys, b _ _ n h1, b _ _ (fun z => h9 (sub _ z)) h2, b _ _ (fun z => h10 (sub _ z)) h3, h4, h5, h6, h7, h8, h9, h10⟩
theorem fold_mem {sizes : List Int} : ∀ (l : List Nat) (b : Option Nat) (i : Nat), l.foldl (lessF sizes) b = some i → i ∈ l ∨ b = some i := by
  intro l
  induction l with
  | nil => intro b i e; exact .inr e
  | cons a l ih =>
    intro b i e
    rcases ih _ _ e with z | z
    · exact .inl (List.mem_cons_of_mem _ z)
    · cases b with
      | none => cases z; exact .inl (List.mem_cons_self ..)
      | some j =>
        unfold lessF at z
        by_cases c : sizes.getD a 0 < sizes.getD j 0
        · have z2 : some a = some i := by rw [← z]; exact (if_pos c).symm
          cases z2; exact .inl (List.mem_cons_self ..)
        · have z2 : some j = some i := by rw [← z]; exact (if_neg c).symm
          exact .inr z2
section
variable {P : Program} {w : World} {K : PySem.W.Frag} {mg : Str → Option Value} {base : Heap}
def sp_law_place (K : PySem.W.Frag) : Sp := fun vs H Q _ => ∃ (sz rm hm : Addr) (size : Int) (sizes : List Int) (as bxs : List Addr) (boxes : List BoxS) (given : List (Option Nat)), vs = [.ref sz, .ref rm, .int size] ∧ SqT K H sz (sizes.map V.int) ∧ RmAt as H rm hm bxs boxes given ∧ sizes.length = boxes.length ∧ boxes.length ≤ 12 ∧ Q (giV (placeF sizes boxes size)) H
end
end K67

namespace K67
open PySem PySem.Spec PyProof.Rows L2 My StX
/-! ### calls -/
inductive Call where
  | bring (size : Int) (l s : Bool) | code (p : Int) (t s : Bool) | pass (i : Nat) | day | power
def Call.vs : Call → List V
  | .bring size l s => [.str "bring", .int size, .bl l, .bl s]
  | .code p t s => [.str "code", .int p, .bl t, .bl s]
  | .pass i => [.str "pass", .int (i : Int)]
  | .day => [.str "day"]
  | .power => [.str "power"]
def CallOk (W : WallS) : Call → Prop
  | .bring size _ _ => 1 ≤ size ∧ size ≤ 9
  | .code p _ _ => 1 ≤ p ∧ p ≤ (W.cur.given.length : Int)
  | .pass i => i < W.cur.boxes.length
  | _ => True
/-- what a call tells -/
inductive DueS where
  | trip (p : Int) (i : Option Nat) (l : List Int) | rep (l : List Int) (o : Bool) (g : List Int) | lst (l : List Int)
def callW (W : WallS) : Call → WallS × DueS
  | .bring size l s => ((bringW W size l s).1, .trip ((W.cur.given.length : Int) + 1) (bringW W size l s).2.1 (bringW W size l s).2.2)
  | .code p t s => ((codeW W p t s).1, .rep (codeW W p t s).2.letters (codeW W p t s).2.opened (codeW W p t s).2.got)
  | .pass i => ((passW W i).1, .lst (passW W i).2.got)
  | .day => ((tickW (dayF W.cur.d W.cur.rs) W).1, .lst (tickW (dayF W.cur.d W.cur.rs) W).2)
  | .power => ((tickW (powerF W.cur.rs) W).1, .lst (tickW (powerF W.cur.rs) W).2)
def TdL (as : List Addr) (H : Hp) (a : Addr) (l : List Int) : Prop := H a = some (.lst (l.map V.int)) ∧ a ∉ as
def DueAt (as : List Addr) (H : Hp) (v : V) : DueS → Prop
  | .trip p i l => ∃ t a, v = .ref t ∧ H t = some (.tup [.int p, giV i, .ref a]) ∧ TdL as H a l
  | .rep l o g => ∃ t a b, v = .ref t ∧ H t = some (.tup [.ref a, .bl o, .ref b]) ∧ TdL as H a l ∧ TdL as H b g
  | .lst l => ∃ a, v = .ref a ∧ TdL as H a l
theorem TdL.mut {as cs : List Addr} {H H' : Hp} {a : Addr} {l : List Int} (m : ∀ c ∈ cs, Mut as H c) (b : But cs H H') (h : TdL as H a l) : TdL as H' a l := ⟨mut_lst m b h.2 h.1, h.2⟩
theorem mut_htup {as cs : List Addr} {H H' : Hp} {t : Addr} {xs : List V} (m : ∀ c ∈ cs, Mut as H c) (b : But cs H H') (h : H t = some (.tup xs)) : H' t = some (.tup xs) := by
  refine b _ _ (fun z => ?_) h
  rcases m _ z with ⟨_, l, e⟩ | ⟨_, _, _, _, _, _, _, e⟩ <;> (rw [h] at e; cases e)
theorem DueAt.mut {as cs : List Addr} {H H' : Hp} {v : V} {d : DueS} (m : ∀ c ∈ cs, Mut as H c) (b : But cs H H') (h : DueAt as H v d) : DueAt as H' v d := by
  cases d with
  | trip p i l =>
    obtain ⟨t, a, e, h1, h2⟩ := h
    exact ⟨t, a, e, mut_htup m b h1, h2.mut m b⟩
  | rep l o g =>
    obtain ⟨t, a, c, e, h1, h2, h3⟩ := h
    exact ⟨t, a, c, e, mut_htup m b h1, h2.mut m b, h3.mut m b⟩
  | lst l =>
    obtain ⟨a, e, h2⟩ := h
    exact ⟨a, e, h2.mut m b⟩
theorem DueAt.same {as : List Addr} {H H' : Hp} {v : V} {d : DueS} (s : Same H H') (h : DueAt as H v d) : DueAt as H' v d := h.mut mut_no (But.of s)
/-! ### the law's own wall behind a call -/
theorem RmAt.room {as : List Addr} {H H' : Hp} {rm hm bx : Addr} {bxs : List Addr} {boxes : List BoxS} {given : List (Option Nat)} {i : Nat} {S : BoxS} (h : RmAt as H rm hm bxs boxes given) (hi : bxs[i]? = some bx) (b : But [bx] H H') (hb : LB5 as H' bx S) : RmAt as H' rm hm bxs (boxes.set i S) given := by
  obtain ⟨A, B, rfl, rfl⟩ := split_at hi
  obtain ⟨A', S2, B', eW, pA, pf, pB⟩ := paired_mid h.rooms
  have elen : A'.length = A.length := pA.length.symm
  obtain ⟨n1, nd⟩ := List.nodup_cons.mp h.nd
  obtain ⟨ndA, ndR, dAR⟩ := List.nodup_append.mp nd
  obtain ⟨nb, ndB⟩ := List.nodup_cons.mp ndR
  have inB : bx ∈ as := h.inA bx (by simp)
  have one : ∀ {a : Addr}, a ≠ bx → a ∉ [bx] := fun n => by simpa using n
  have sub : ∀ c ∈ [bx], c ∈ as := fun c hc => by rw [List.mem_singleton.mp hc]; exact inB
  refine ⟨b _ _ (one fun z => h.out (z ▸ inB)) h.hrm, b _ _ (one fun z => n1 (by rw [z]; simp)) h.hhm, ?_, h.nd, h.inA, h.out⟩
  rw [eW, ← elen, set_mid]
  refine paired_app (paired_map (fun a S3 ha hS => hS.but b sub (one fun z => ?_)) pA) (.cons hb (paired_map (fun a S3 ha hS => hS.but b sub (one fun z => nb (z ▸ ha))) pB))
  exact dAR a ha bx (by simp) z
theorem RmAt.give {as : List Addr} {H : Hp} {rm hm : Addr} {bxs : List Addr} {boxes : List BoxS} {given : List (Option Nat)} (h : RmAt as H rm hm bxs boxes given) (n : Option Nat) : RmAt as (upd H hm (.lst ((given ++ [n]).map giV))) rm hm bxs boxes (given ++ [n]) := by
  obtain ⟨n1, nd⟩ := List.nodup_cons.mp h.nd
  have inH : hm ∈ as := h.inA hm (by simp)
  have b : But [hm] H (upd H hm (.lst ((given ++ [n]).map giV))) := (But.refl _ _).put (.inr (by simp))
  refine ⟨(upd_ne (show rm ≠ hm from fun z => h.out (by rw [z]; exact inH))).trans h.hrm, upd_same, paired_map (fun a S3 ha hS => hS.but b (fun c hc => by rw [List.mem_singleton.mp hc]; exact inH) (fun z => n1 (by rw [← List.mem_singleton.mp z]; exact ha))) h.rooms, h.nd, h.inA, h.out⟩
theorem RmAt.same {as : List Addr} {H H' : Hp} {rm hm : Addr} {bxs : List Addr} {boxes : List BoxS} {given : List (Option Nat)} (s : Same H H') (h : RmAt as H rm hm bxs boxes given) : RmAt as H' rm hm bxs boxes given :=
  ⟨s _ _ h.hrm, s _ _ h.hhm, paired_map (fun a S ha hS => hS.same s) h.rooms, h.nd, h.inA, h.out⟩
theorem act_lets (x : BoxS × ToldS) (a : Str) : (act x a).2.letters.length ≤ x.2.letters.length + 1 := by
  unfold K67.act
  split
  · unfold sendCode
    split
    · split
      · show (x.2.letters ++ [_]).length ≤ _
        rw [List.length_append]
        exact Nat.le_refl _
      · exact Nat.le_succ _
    · exact Nat.le_succ _
  · split
    · exact Nat.le_succ _
    · split
      · exact Nat.le_succ _
      · split <;> exact Nat.le_succ _
theorem fold_lets : ∀ (r : RuleL) (x : BoxS × ToldS), (r.foldl act x).2.letters.length ≤ x.2.letters.length + r.length
  | [], x => Nat.le_refl _
  | a :: r, x => by
    have h1 := fold_lets r (act x a)
    have h2 := act_lets x a
    show (r.foldl act (act x a)).2.letters.length ≤ _
    rw [List.length_cons]
    omega
theorem day_lets {rs : List RuleL} (g : GoodB rs) (d : Int) (S : BoxS) : (dayF d rs S).2.letters.length ≤ 100 := by
  unfold dayF
  split
  · exact Nat.zero_le _
  · split
    · refine Nat.le_trans (fold_lets (at_ rs 6) _) ?_
      have := g.six (show 6 < 8 by decide)
      show 0 + _ ≤ 100
      omega
    · exact Nat.zero_le _
theorem power_lets {rs : List RuleL} (g : GoodB rs) (S : BoxS) : (powerF rs S).2.letters.length ≤ 100 := by
  refine Nat.le_trans (fold_lets (at_ rs 7) _) ?_
  have := g.six (show 7 < 8 by decide)
  show 0 + _ ≤ 100
  omega
section
variable {K : PySem.W.Frag} {σ : L2.St} {H : Hp} {hd wq : Str} {tb rest : TS} {D : Ends} {t : Addr} {vs : List V} {k : Nat}
theorem cq_no (g : σ[k]? = some (some (V.ref t))) (ht : SqT K H t vs) (hw : vs[0]? = some (.str hd)) (ne : hd ≠ wq) (q : rest D σ H) : tSeq (tIfS (tTest (tOp rEq (tOp (rIxT K) (tVar k) (tC (V.int 0))) (tC (V.str wq)))) tb tNext) rest D σ H := by
  refine ⟨_, g, t, _, ((0 : Nat) : Int), _, rfl, rfl, ht, atI_nat hw, rfl, _, rfl, ?_⟩
  rw [str_eqF ne]
  exact q
theorem cq_yes (g : σ[k]? = some (some (V.ref t))) (ht : SqT K H t vs) (hw : vs[0]? = some (.str hd)) (e : hd = wq) (q : tb { D with nx := rest D } σ H) : tSeq (tIfS (tTest (tOp rEq (tOp (rIxT K) (tVar k) (tC (V.int 0))) (tC (V.str wq)))) tb tNext) rest D σ H := by
  refine ⟨_, g, t, _, ((0 : Nat) : Int), _, rfl, rfl, ht, atI_nat hw, rfl, _, rfl, ?_⟩
  rw [str_eqT e]
  exact q
end
section
variable {P : Program} {w : World} {K : PySem.W.Frag} {mg : Str → Option Value} {base : Heap}
def sp_law_call (K : PySem.W.Frag) : Sp := fun vs H Q _ => ∃ (rl sz st rm hm ca : Addr) (as bxs : List Addr) (W : WallS) (n : Nat) (c : Call), vs = [.ref rl, .int W.cur.d, .ref sz, .ref st, .ref ca] ∧ RulesAt K H rl W.cur.rs ∧ rl ∉ as ∧ GoodB W.cur.rs ∧ SqT K H sz (W.sizes.map V.int) ∧
  H st = some (.lst [.ref rm, .ref hm]) ∧ st ∉ as ∧ RmAt as H rm hm bxs W.cur.boxes W.cur.given ∧ (∀ a ∈ as, H a ≠ none) ∧ SqT K H ca c.vs ∧ CallOk W c ∧ WSm W n ∧ GivOk W ∧
  ∀ (H' : Hp) (v : V), But (hm :: bxs) H H' → RmAt as H' rm hm bxs (callW W c).1.cur.boxes (callW W c).1.cur.given → DueAt as H' v (callW W c).2 → Q v H'
end
end K67

namespace K67
open PySem PySem.Spec PyProof.Rows L2 My
/-! ### wells: where the draws come from -/
section
variable {P : Program} {w : World} {K : PySem.W.Frag} {mg : Str → Option Value} {base : Heap}
def sp_law_draw (K : PySem.W.Frag) : Sp := fun vs H Q _ => ∃ (a : Addr) (n : Nat) (many : Int), vs = [.ref a, .int many] ∧ SpringAt H a n ∧ n < 2 ^ 100 ∧ 0 < many ∧ many < 2 ^ 200 ∧
  ∀ H' k, But [a] H H' → SpringAt H' a (n + 1) → 0 ≤ k → k < many → Q (.int k) H'
set_option maxHeartbeats 2000000 in
theorem ok_law_draw (T : Txt w K mg) {fd : FuncData} (F : FunD K d_law_draw.name d_law_draw.qual d_law_draw.params d_law_draw.body d_law_draw.scope (d_law_draw.dvs K) (d_law_draw.kws K) (He.fAd K d_law_draw.at_) fd) : FnOk P w K mg base C8.CX0 1 (He.fAd K d_law_draw.at_) fd ["well", "many"] (sp_law_draw K) := by
  refine F.ok sc_law_draw (fun vs H Q E h => ?_) (fun cdv A outer s H vs Q E hr h => ?_)
  · obtain ⟨a, n, many, rfl, _⟩ := h
    rfl
  · have hu := L2.hu_of hr
    obtain ⟨a, n, many, rfl, ⟨w0, w1, w2, ha, hw1, hw2, hw3⟩, hn, hm0, hm1, q⟩ := h
    refine ⟨_, (PSs.nox ((pss_cons (ps_if (pt_cmpR op_gt (pe_ix (My.ix_listK (K := K) rfl) (pv 0) pe_int (fun _ _ => rfl)) pe_int (nomark _))
  (pss_cons (ps_set (i := 2) sc_law_draw.nd rfl (by first | exact Or.inl rfl | exact Or.inr rfl) (pe_op op_mod (pe_callTy call_int1 (by rfl) T.int (by decide +kernel) (pa_cons (pe_ix (My.ix_listK (K := K) rfl) (pv 0) pe_int (fun _ _ => rfl)) pa_nil)) (pv 1)))
  (pss_cons (ps_asg (pe_op op_fdivW (pe_ix (My.ix_listK (K := K) rfl) (pv 0) pe_int (fun _ _ => rfl)) (pv 1)) (pg_sub (pv 0) pe_int set_list))
  (pss_one (ps_ret (pv 2)))))
  pss_nil)
  (pss_cons (ps_asg (pe_op op_add (pe_ix (My.ix_listK (K := K) rfl) (pv 0) pe_int (fun _ _ => rfl)) pe_int) (pg_sub (pv 0) pe_int set_list))
  (pss_cons (ps_set (i := 3) sc_law_draw.nd rfl (by first | exact Or.inl rfl | exact Or.inr rfl) (pe_op op_mulW pe_int (pe_ix (My.ix_listK (K := K) rfl) (pv 0) pe_int (fun _ _ => rfl))))
  (pss_cons (ps_set (i := 4) sc_law_draw.nd rfl (by first | exact Or.inl rfl | exact Or.inr rfl) (pe_op op_mod (pe_callTy call_int1 (by rfl) T.int (by decide +kernel) (pa_cons (pe_op op_add (pe_op My.op_powW (pe_op op_add (pe_ix (My.ix_listK (K := K) rfl) (pv 0) pe_int (fun _ _ => rfl)) (pv 3)) pe_int) (pe_op op_mulW pe_int (pv 3))) pa_nil)) (pe_op op_add (pe_op My.op_powW pe_int pe_int) pe_int)))
  (pss_cons (ps_set (i := 4) sc_law_draw.nd rfl (by first | exact Or.inl rfl | exact Or.inr rfl) (pe_op op_mod (pe_callTy call_int1 (by rfl) T.int (by decide +kernel) (pa_cons (pe_op My.op_powW (pe_op op_add (pv 4) (pe_op op_mulW pe_int (pe_ix (My.ix_listK (K := K) rfl) (pv 0) pe_int (fun _ _ => rfl)))) pe_int) pa_nil)) (pe_op op_add (pe_op My.op_powW pe_int pe_int) pe_int)))
  (pss_one (ps_ret (pe_op op_mod (pe_callTy call_int1 (by rfl) T.int (by decide +kernel) (pa_cons (pe_op op_fdivW (pv 4) (pe_op My.op_powW pe_int pe_int)) pa_nil)) (pv 1))))))))))), ?_⟩
    have hmW : CDivW w0 many := wide_div (b := 200) hm0 (by omega) (by decide) (by decide)
    refine ⟨_, rfl, a, _, _, _, rfl, rfl, SqL.of ha, rfl, _, _, rfl, rfl, _, rfl, ?_⟩
    refine L2.ite2 (fun c => ?_) (fun c => ?_)
    · refine ⟨_, rfl, a, _, _, _, rfl, rfl, SqL.of ha, rfl, .inl ⟨_, rfl, _, rfl, _, _, rfl, rfl, hm0, ?_⟩⟩
      refine ⟨_, rfl, a, _, _, _, rfl, rfl, SqL.of ha, rfl, _, rfl, _, _, rfl, rfl, hmW, _, rfl, a, _, 0, 0, rfl, rfl, ha, rfl, ?_⟩
      refine ⟨_, rfl, q _ _ ((But.refl _ _).put (.inr (by simp))) ⟨_, w1, w2, upd_same, hw1, hw2, by omega⟩ (Int.emod_nonneg _ (by omega)) (Int.emod_lt_of_pos _ hm0)⟩
    · have b2 : (w2 + 1).natAbs < 2 ^ 101 := by
        have : (2 : Nat) ^ 101 = 2 ^ 100 + 2 ^ 100 := by decide
        omega
      have m1 : (32452843 : Int).natAbs < 2 ^ 40 := by decide
      have m2 : (49979687 : Int).natAbs < 2 ^ 40 := by decide
      have m38 : (0 : Int) < 10 ^ (38 : Int).toNat + 133 := by decide
      have m37 : (0 : Int) < 10 ^ (37 : Int).toNat + 43 := by decide
      have q1 : (32452843 * (w2 + 1)).natAbs < 2 ^ 200 := by
        have : (2 : Nat) ^ 200 > 32452843 * 2 ^ 101 := by decide
        omega
      have q2 : (49979687 * (w2 + 1)).natAbs < 2 ^ 200 := by
        have : (2 : Nat) ^ 200 > 49979687 * 2 ^ 101 := by decide
        omega
      have c1 : CMulW 32452843 (w2 + 1) := wide_mul m1 b2 (by decide) (by decide) (by decide)
      have c2 : CMulW 49979687 (w2 + 1) := wide_mul m2 b2 (by decide) (by decide) (by decide)
      have c7 : CMulW 7 (32452843 * (w2 + 1)) := wide_mul (a := 40) (by decide) q1 (by decide) (by decide) (by decide)
      refine ⟨_, rfl, a, _, _, _, rfl, rfl, SqL.of ha, rfl, _, _, rfl, rfl, _, rfl, a, _, 2, 2, rfl, rfl, ha, rfl, ?_⟩
      have ha2 : upd H a (.lst [.int w0, .int w1, .int (w2 + 1)]) a = some (.lst [.int w0, .int w1, .int (w2 + 1)]) := upd_same
      refine ⟨_, rfl, a, _, _, _, rfl, rfl, SqL.of ha2, rfl, _, _, rfl, rfl, c1, ?_⟩
      refine ⟨_, rfl, a, _, _, _, rfl, rfl, SqL.of ha2, rfl, _, rfl, _, _, rfl, rfl, ?_⟩
      refine ⟨_, _, rfl, rfl, powW (add_lt hw1 q1) (by decide) (by decide) (by decide), _, rfl, _, _, rfl, rfl, c7, _, _, rfl, rfl, .inl ⟨_, rfl, ?_⟩⟩
      refine ⟨_, _, rfl, rfl, ten_pow (by decide) (by decide), _, _, rfl, rfl, _, _, rfl, rfl, m38, ?_⟩
      have e1 := emod_lt2 (x := (w1 + 32452843 * (w2 + 1)) ^ (3 : Int).toNat + 7 * (32452843 * (w2 + 1))) (m := 10 ^ (38 : Int).toNat + 133) (k := 200) (by decide) (by decide)
      refine ⟨_, rfl, _, rfl, a, _, _, _, rfl, rfl, SqL.of ha2, rfl, _, _, rfl, rfl, c2, _, _, rfl, rfl, ?_⟩
      refine ⟨_, _, rfl, rfl, powW (add_lt e1 q2) (by decide) (by decide) (by decide), .inl ⟨_, rfl, ?_⟩⟩
      refine ⟨_, _, rfl, rfl, ten_pow (by decide) (by decide), _, _, rfl, rfl, _, _, rfl, rfl, m37, ?_⟩
      refine ⟨_, rfl, _, _, rfl, rfl, ten_pow (by decide) (by decide), _, _, rfl, rfl, wide_div (b := 100) (by decide) (by decide) (by decide) (by decide), .inl ⟨_, rfl, ?_⟩⟩
      refine ⟨_, rfl, _, _, rfl, rfl, hm0, ?_⟩
      exact q _ _ ((But.refl _ _).put (.inr (by simp))) ⟨_, w1, w2 + 1, upd_same, hw1, by omega, by omega⟩ (Int.emod_nonneg _ (by omega)) (Int.emod_lt_of_pos _ hm0)
theorem c_law_draw (T : Txt w K mg) : C8.Cal P w K mg base 1 "_law_draw" (sp_law_draw K) [] := by
  obtain ⟨fd, F⟩ := T.f_law_draw
  exact ⟨_, fd, _, _, ok_law_draw T F, T.g_law_draw, F.kp, F.bindsN (fun _ _ _ _ _ _ us hl => match us, hl with | [_, _], _ => rfl), .nil⟩
def sp_law_well (K : PySem.W.Frag) : Sp := fun vs H Q _ => ∃ (a : Addr) (ns : List Int) (k : Int), vs = [.ref a, .int k] ∧ SqL K H a (ns.map V.int) ∧ 0 ≤ k ∧ k < 100 ∧
  ∀ H' p, H p = none → Same H H' → SpringAt H' p 1 → Q (.ref p) H'
set_option maxHeartbeats 2000000 in
theorem ok_law_well (T : Txt w K mg) {fd : FuncData} (F : FunD K d_law_well.name d_law_well.qual d_law_well.params d_law_well.body d_law_well.scope (d_law_well.dvs K) (d_law_well.kws K) (He.fAd K d_law_well.at_) fd) : FnOk P w K mg base C8.CX0 1 (He.fAd K d_law_well.at_) fd ["script", "k"] (sp_law_well K) := by
  refine F.ok sc_law_well (fun vs H Q E h => ?_) (fun cdv A outer s H vs Q E hr h => ?_)
  · obtain ⟨a, ns, k, rfl, _⟩ := h
    rfl
  · have hu := L2.hu_of hr
    obtain ⟨a, ns, k, rfl, hS, hk0, hk1, q⟩ := h
    refine ⟨_, (PSs.nox ((pss_cons (ps_set (i := 2) sc_law_well.nd rfl (by first | exact Or.inl rfl | exact Or.inr rfl) pe_int)
  (pss_cons (ps_if (pt_cmpR op_lt (pv 1) (pe_callB (My.len_seqK (K := K) rfl) (by rfl) T.len (by decide +kernel) (pa_cons (pv 0) pa_nil)) (nomark _))
  (pss_one (ps_set (i := 2) sc_law_well.nd rfl (by first | exact Or.inl rfl | exact Or.inr rfl) (pe_callTy call_int1 (by rfl) T.int (by decide +kernel) (pa_cons (pe_ix (My.ix_listK (K := K) rfl) (pv 0) (pv 1) (fun _ _ => rfl)) pa_nil))))
  pss_nil)
  (pss_one (ps_ret (pe_lst (pa_cons (pe_callB (call_max2 rfl) (by rfl) T.max (by decide +kernel) (pa_cons pe_int (pa_cons (pe_op op_sub (pe_callB call_abs (by rfl) T.abs (by decide +kernel) (pa_cons (pv 2) pa_nil)) (pe_op My.op_powW pe_int pe_int)) pa_nil))) (pa_cons (pe_op op_add (pe_op op_mod (pe_callTy call_int1 (by rfl) T.int (by decide +kernel) (pa_cons (pv 2) pa_nil)) (pe_op op_add (pe_op My.op_powW pe_int pe_int) pe_int)) (pe_op op_mulW pe_int (pv 1))) (pa_cons pe_int pa_nil)))))))))), ?_⟩
    have fin : ∀ cell : Int, (∀ p, H p = none → ∀ w0, Q (.ref p) (upd H p (.lst [.int w0, .int (cell % (10 ^ (36 : Int).toNat + 67) + 7368787 * k), .int 1]))) := by
      intro cell p hp w0
      refine q _ p hp (same_new hp) ⟨_, _, _, upd_same, ?_, by decide, by decide⟩
      have e1 := emod_lt2 (x := cell) (m := 10 ^ (36 : Int).toNat + 67) (k := 130) (by decide) (by decide)
      have e2 : (7368787 * k).natAbs < 2 ^ 130 := by
        have : (2 : Nat) ^ 130 > 3000000000 := by decide
        omega
      exact two_le (add_lt e1 e2) (by decide)
    have m36 : (0 : Int) < 10 ^ (36 : Int).toNat + 67 := by decide
    have mk : CMulW 7368787 k := by
      refine wide_mul (a := 40) (b := 40) (by decide) ?_ (by decide) (by decide) (by decide)
      have : (2 : Nat) ^ 40 > 1000 := by decide
      omega
    have rest : ∀ cell : Int, tRet
              (tLst
                (tCons
                  (tCB (fun xs H Q => ∃ i j, xs = [V.int i, V.int j] ∧ Q (V.int (if j > i then j else i)) H)
                    (tCons (tC (V.int 0))
                      (tCons
                        (tOp (rI0 fun i j => V.int (i - j))
                          (tCB (fun xs H Q => ∃ i, xs = [V.int i] ∧ Q (V.int (if i < 0 then -i else i)) H)
                            (tCons (tVar 2) tNil))
                          (tOp (rI CPowW fun i j => V.int (i ^ j.toNat)) (tC (V.int 10)) (tC (V.int 18))))
                        tNil)))
                  (tCons
                    (tOp (rI0 fun i j => V.int (i + j))
                      (tOp (rI (fun x j => 0 < j) fun i j => V.int (i % j))
                        (tCB
                          (fun xs H Q =>
                            (∃ i, xs = [V.int i] ∧ Q (V.int i) H) ∨
                              ∃ k, xs = [V.bl k] ∧ Q (V.int (if k = true then 1 else 0)) H)
                          (tCons (tVar 2) tNil))
                        (tOp (rI0 fun i j => V.int (i + j))
                          (tOp (rI CPowW fun i j => V.int (i ^ j.toNat)) (tC (V.int 10)) (tC (V.int 36))) (tC (V.int 67))))
                      (tOp (rI CMulW fun i j => V.int (i * j)) (tC (V.int 7368787)) (tVar 1)))
                    (tCons (tC (V.int 1)) tNil)))) { nx := fun x H' => Q V.non H', rt := Q } [some (.ref a), some (.int k), some (.int cell)] H := by
      intro cell
      refine ⟨_, rfl, _, rfl, _, _, rfl, rfl, ten_pow (by decide) (by decide), _, _, rfl, rfl, _, _, rfl, ?_⟩
      refine ⟨_, rfl, .inl ⟨_, rfl, _, _, rfl, rfl, ten_pow (by decide) (by decide), _, _, rfl, rfl, _, _, rfl, rfl, m36, ?_⟩⟩
      exact ⟨_, rfl, _, _, rfl, rfl, mk, _, _, rfl, rfl, by show 3 ≤ sizeLine; decide, fun p hp => fin _ p hp _⟩
    refine ⟨_, rfl, _, rfl, a, _, rfl, .inl hS, _, _, rfl, rfl, _, rfl, ?_⟩
    rw [List.length_map]
    refine L2.ite2 (fun c => ?_) (fun c => ?_)
    · have hlt : k < (ns.length : Int) := of_decide_eq_true c
      obtain ⟨j, rfl⟩ : ∃ j : Nat, k = (j : Int) := ⟨k.toNat, by omega⟩
      have hj : j < ns.length := by omega
      refine ⟨_, rfl, _, rfl, a, _, _, _, rfl, rfl, hS, atI_nat (by rw [List.getElem?_map, List.getElem?_eq_getElem hj]; rfl), .inl ⟨_, rfl, ?_⟩⟩
      exact rest _
    · exact rest 0
theorem c_law_well (T : Txt w K mg) : C8.Cal P w K mg base 1 "_law_well" (sp_law_well K) [] := by
  obtain ⟨fd, F⟩ := T.f_law_well
  exact ⟨_, fd, _, _, ok_law_well T F, T.g_law_well, F.kp, F.bindsN (fun _ _ _ _ _ _ us hl => match us, hl with | [_, _], _ => rfl), .nil⟩
end
end K67

namespace K67
open PySem PySem.Spec PyProof.Rows L2 My
theorem lt100 (m : Nat) (h : m ≤ 60000) : m < 2 ^ 100 := Nat.lt_of_le_of_lt h (by decide)
theorem SpringAt.live {H : Hp} {a : Addr} {n : Nat} (h : SpringAt H a n) {b : Addr} (hb : H b = none) : a ≠ b := by
  obtain ⟨_, _, _, e, _⟩ := h
  exact ne_of_none e hb
section
variable {P : Program} {w : World} {K : PySem.W.Frag} {mg : Str → Option Value} {base : Heap}
def sp_law_pick (K : PySem.W.Frag) : Sp := fun vs H Q _ => ∃ (a b : Addr) (n : Nat) (xs : List V), vs = [.ref a, .ref b] ∧ SpringAt H a n ∧ n ≤ 60000 ∧ ((H b = some (.lst xs) ∧ b ≠ a) ∨ SqT K H b xs) ∧ 0 < xs.length ∧ xs.length ≤ 100 ∧
  ∀ H' (i : Nat) v, But [a] H H' → SpringAt H' a (n + 1) → xs[i]? = some v → Q v H'
set_option maxHeartbeats 2000000 in
theorem ok_law_pick (T : Txt w K mg) {fd : FuncData} (F : FunD K d_law_pick.name d_law_pick.qual d_law_pick.params d_law_pick.body d_law_pick.scope (d_law_pick.dvs K) (d_law_pick.kws K) (He.fAd K d_law_pick.at_) fd) : FnOk P w K mg base C8.CX0 2 (He.fAd K d_law_pick.at_) fd ["well", "row"] (sp_law_pick K) := by
  have c_law_draw := c_law_draw (P := P) (w := w) (base := base) T
  refine F.ok sc_law_pick (fun vs H Q E h => ?_) (fun cdv A outer s H vs Q E hr h => ?_)
  · obtain ⟨a, b, n, xs, rfl, _⟩ := h
    rfl
  · have hu := L2.hu_of hr
    obtain ⟨a, b, n, xs, rfl, hs, hn, hb, h0, h1, q⟩ := h
    refine ⟨_, (PSs.nox ((pss_one (ps_ret (pe_ix (My.ix_bothK (K := K) rfl) (pv 1) (C8.pe_c c_law_draw hr (by decide) rfl (pa_cons (pv 0) (pa_cons (pe_callB (My.len_seqK (K := K) rfl) (by rfl) T.len (by decide +kernel) (pa_cons (pv 1) pa_nil)) pa_nil))) (fun _ _ => rfl)))))), ?_⟩
    have hb2 : SqL K H b xs ∨ SqT K H b xs := hb.elim (fun z => .inl (SqL.of z.1)) .inr
    have big : (100 : Int) < 2 ^ 200 := by decide
    refine ⟨_, rfl, _, rfl, _, rfl, b, _, rfl, hb2, a, n, (xs.length : Int), rfl, hs, lt100 _ hn, by omega, by omega, fun H1 k b1 s1 k0 k1 => ?_⟩
    obtain ⟨m, hm, rfl⟩ : ∃ m : Nat, m < xs.length ∧ k = (m : Int) := ⟨k.toNat, by omega, by omega⟩
    have hx : xs[m]? = some xs[m] := List.getElem?_eq_getElem hm
    rcases hb with ⟨hb, ne⟩ | hb
    · exact .inl ⟨b, _, _, _, rfl, rfl, SqL.of (b1 _ _ (by simpa using ne) hb), atI_nat hx, q H1 m _ b1 s1 hx⟩
    · exact .inr ⟨b, _, _, _, rfl, rfl, But.tupS b1 hs hb, atI_nat hx, q H1 m _ b1 s1 hx⟩
theorem c_law_pick (T : Txt w K mg) : C8.Cal P w K mg base 2 "_law_pick" (sp_law_pick K) [] := by
  obtain ⟨fd, F⟩ := T.f_law_pick
  exact ⟨_, fd, _, _, ok_law_pick T F, T.g_law_pick, F.kp, F.bindsN (fun _ _ _ _ _ _ us hl => match us, hl with | [_, _], _ => rfl), .nil⟩
def sp_law_any_rule (K : PySem.W.Frag) : Sp := fun vs H Q _ => ∃ (a : Addr) (n : Nat), vs = [.ref a] ∧ SpringAt H a n ∧ n ≤ 50000 ∧ ∀ H' p r, But [a] H H' → SpringAt H' a (n + 7) → RuleAt K H' p r → GoodRule r → Q (.ref p) H'
set_option maxHeartbeats 2000000 in
theorem ok_law_any_rule (T : Txt w K mg) {fd : FuncData} (F : FunD K d_law_any_rule.name d_law_any_rule.qual d_law_any_rule.params d_law_any_rule.body d_law_any_rule.scope (d_law_any_rule.dvs K) (d_law_any_rule.kws K) (He.fAd K d_law_any_rule.at_) fd) : FnOk P w K mg base C8.CX0 3 (He.fAd K d_law_any_rule.at_) fd ["well"] (sp_law_any_rule K) := by
  have c_law_draw := c_law_draw (P := P) (w := w) (base := base) T
  have c_law_pick := c_law_pick (P := P) (w := w) (base := base) T
  refine F.ok sc_law_any_rule (fun vs H Q E h => ?_) (fun cdv A outer s H vs Q E hr h => ?_)
  · obtain ⟨a, n, rfl, _⟩ := h
    rfl
  · have hu := L2.hu_of hr
    obtain ⟨a, n, rfl, hs, hn, q⟩ := h
    refine ⟨_, (PSs.nox ((pss_cons (ps_set (i := 1) sc_law_any_rule.nd rfl (by first | exact Or.inl rfl | exact Or.inr rfl) (pe_lst (pa_cons pe_str (pa_cons pe_str (pa_cons pe_str (pa_cons pe_str (pa_cons pe_str (pa_cons pe_str (pa_cons pe_str pa_nil)))))))))
  (pss_one (ps_ret (pe_callTy (My.tuple_ofK (K := K) rfl) (by rfl) T.tuple (by decide +kernel) (pa_cons (pe_lc (own := [("k", 2)]) (g := (gName 2)) (tt := tYes) (by rfl) sc_law_any_rule.nd (pi_range1 (by rfl) T.range (pa_cons (C8.pe_c c_law_draw hr (by decide) rfl (pa_cons (pv 0) (pa_cons pe_int pa_nil))) pa_nil)) (blkOk_by (N := N_law_any_rule) (sc := defScope s_law_any_rule) (by decide +kernel)) (fun _ _ _ _ _ => (pg_name (i := 2) sc_law_any_rule.nd rfl (by first | exact Or.inl rfl | exact Or.inr rfl))) (fun _ _ _ _ _ => pts_nil) (fun _ _ _ _ _ => (C8.pe_c c_law_pick hr (by decide) rfl (pa_cons (pv 0) (pa_cons (pv 1) pa_nil))))) pa_nil))))))), ?_⟩
    refine ⟨by show 7 ≤ sizeLine; decide, fun b hb => ?_⟩
    have yb := same_new (o := .lst (acts.map V.str)) hb
    have nab : b ≠ a := (hs.live hb).symm
    have hb1 : upd H b (.lst (acts.map V.str)) b = some (.lst (acts.map V.str)) := upd_same
    refine ⟨_, rfl, a, n, 7, rfl, hs.same yb, lt100 _ (by omega), by decide, by decide, fun H1 k b1 s1 k0 k1 => ⟨k, rfl, by omega, by omega, fun D hD => ?_⟩⟩
    have b01 := (But.of yb : But [a] H _).trans b1
    have one : ∀ {c : Addr}, c ≠ a → c ∉ [a] := fun n => by simpa using n
    have hb2 := b1 _ _ (one nab) hb1
    have naD : a ≠ D := s1.live hD
    have hHD : H D = none := b01.none (one naD.symm) hD
    have nbD : b ≠ D := ne_of_none hb2 hD
    refine lc_range (lo := 0) (n := k.toNat) (fun i H' => ∃ r : RuleL, r.length = i ∧ But [a] H H' ∧ SpringAt H' a (n + 1 + i) ∧ H' D = some (.lst (r.map V.str)) ∧ H' b = some (.lst (acts.map V.str)) ∧ ∀ x ∈ r, x ∈ acts) ⟨[], rfl, b01.put (.inl hHD), s1.put naD, upd_same, (upd_ne nbD).trans hb2, fun x hx => by cases hx⟩ ?_ ?_
    · rintro i H2 hi ⟨r, hl2, b2, s2, hD2, hb3, hr2⟩
      refine ⟨rfl, ?_⟩
      refine ⟨_, rfl, _, rfl, a, b, n + 1 + i, _, rfl, s2, by omega, .inl ⟨hb3, nab⟩, by decide, by decide, fun H3 j v b3 s3 hv => ?_⟩
      obtain ⟨x, hx, rfl⟩ := map_get hv
      have hb4 := b3 _ _ (one nab) hb3
      have hD3 := b3 _ _ (one naD.symm) hD2
      refine ⟨_, hD3, ?_, r ++ [x], by rw [List.length_append, hl2]; rfl, (b2.trans b3).put (.inl hHD), s3.put naD, by rw [upd_same, List.map_append]; rfl, (upd_ne nbD).trans hb4, fun z hz => ?_⟩
      · rw [List.length_map, hl2]
        exact lt_line (by omega)
      · rcases List.mem_append.mp hz with hz | hz
        · exact hr2 z hz
        · rw [List.mem_singleton.mp hz]; exact List.mem_of_getElem? hx
    · rintro H2 ⟨r, hl2, b2, s2, hD2, hb3, hr2⟩
      refine ⟨D, _, rfl, .inl ⟨SqL.of hD2, fun t ht => ?_⟩⟩
      have yt := same_new (o := .tup (r.map V.str)) ht
      exact q _ t r (b2.trans (But.of yt)) ((s2.same yt).mono (by omega)) (SqT.of upd_same) ⟨by omega, hr2⟩
theorem c_law_any_rule (T : Txt w K mg) : C8.Cal P w K mg base 3 "_law_any_rule" (sp_law_any_rule K) [] := by
  obtain ⟨fd, F⟩ := T.f_law_any_rule
  exact ⟨_, fd, _, _, ok_law_any_rule T F, T.g_law_any_rule, F.kp, F.bindsN (fun _ _ _ _ _ _ us hl => match us, hl with | [_], _ => rfl), .nil⟩
def sp_law_number (K : PySem.W.Frag) : Sp := fun vs H Q _ => ∃ (a : Addr) (n : Nat), vs = [.ref a] ∧ SpringAt H a n ∧ n ≤ 50000 ∧ ∀ H' d, But [a] H H' → SpringAt H' a (n + 2) → 1 ≤ d → d ≤ 30 → Q (.int d) H'
set_option maxHeartbeats 2000000 in
theorem ok_law_number (T : Txt w K mg) {fd : FuncData} (F : FunD K d_law_number.name d_law_number.qual d_law_number.params d_law_number.body d_law_number.scope (d_law_number.dvs K) (d_law_number.kws K) (He.fAd K d_law_number.at_) fd) : FnOk P w K mg base C8.CX0 2 (He.fAd K d_law_number.at_) fd ["well"] (sp_law_number K) := by
  have c_law_draw := c_law_draw (P := P) (w := w) (base := base) T
  refine F.ok sc_law_number (fun vs H Q E h => ?_) (fun cdv A outer s H vs Q E hr h => ?_)
  · obtain ⟨a, n, rfl, _⟩ := h
    rfl
  · have hu := L2.hu_of hr
    obtain ⟨a, n, rfl, hs, hn, q⟩ := h
    refine ⟨_, (PSs.nox ((pss_one (ps_ret (pe_ix (My.ix_listK (K := K) rfl) (pe_lst (pa_cons pe_int (pa_cons pe_int (pa_cons pe_int (pa_cons (pe_op op_add pe_int (C8.pe_c c_law_draw hr (by decide) rfl (pa_cons (pv 0) (pa_cons pe_int pa_nil)))) pa_nil))))) (C8.pe_c c_law_draw hr (by decide) rfl (pa_cons (pv 0) (pa_cons pe_int pa_nil))) (fun _ _ => rfl)))))), ?_⟩
    refine ⟨_, rfl, a, n, 30, rfl, hs, lt100 _ (by omega), by decide, by decide, fun H1 k b1 s1 k0 k1 => ⟨_, _, rfl, rfl, by show 4 ≤ sizeLine; decide, fun b hb => ?_⟩⟩
    have yb := same_new (o := .lst [.int 1, .int 2, .int 3, .int (1 + k)]) hb
    have nab : b ≠ a := (s1.live hb).symm
    refine ⟨_, rfl, a, n + 1, 4, rfl, s1.same yb, lt100 _ (by omega), by decide, by decide, fun H2 j b2 s2 j0 j1 => ?_⟩
    obtain ⟨m, hm, rfl⟩ : ∃ m : Nat, m < 4 ∧ j = (m : Int) := ⟨j.toNat, by omega, by omega⟩
    have hb2 := b2 _ _ (by simpa using nab) (upd_same (H := H1) (a := b) (o := .lst [.int 1, .int 2, .int 3, .int (1 + k)]))
    have bb := (b1.trans (But.of yb)).trans b2
    have key : ∃ d : Int, ([V.int 1, .int 2, .int 3, .int (1 + k)] : List V)[m]? = some (.int d) ∧ 1 ≤ d ∧ d ≤ 30 := by
      match m, hm with
      | 0, _ => exact ⟨1, rfl, by decide, by decide⟩
      | 1, _ => exact ⟨2, rfl, by decide, by decide⟩
      | 2, _ => exact ⟨3, rfl, by decide, by decide⟩
      | 3, _ => exact ⟨1 + k, rfl, by omega, by omega⟩
    obtain ⟨d, hd, d1, d2⟩ := key
    exact ⟨b, _, _, _, rfl, rfl, SqL.of hb2, atI_nat hd, q _ d bb s2 d1 d2⟩
theorem c_law_number (T : Txt w K mg) : C8.Cal P w K mg base 2 "_law_number" (sp_law_number K) [] := by
  obtain ⟨fd, F⟩ := T.f_law_number
  exact ⟨_, fd, _, _, ok_law_number T F, T.g_law_number, F.kp, F.bindsN (fun _ _ _ _ _ _ us hl => match us, hl with | [_], _ => rfl), .nil⟩
def sp_law_sizes (K : PySem.W.Frag) : Sp := fun vs H Q _ => ∃ (a : Addr) (n : Nat), vs = [.ref a] ∧ SpringAt H a n ∧ n ≤ 50000 ∧ ∀ H' t l, But [a] H H' → SpringAt H' a (n + 16) → SqT K H' t (l.map V.int) → GoodSizes l → Q (.ref t) H'
set_option maxHeartbeats 2000000 in
theorem ok_law_sizes (T : Txt w K mg) {fd : FuncData} (F : FunD K d_law_sizes.name d_law_sizes.qual d_law_sizes.params d_law_sizes.body d_law_sizes.scope (d_law_sizes.dvs K) (d_law_sizes.kws K) (He.fAd K d_law_sizes.at_) fd) : FnOk P w K mg base C8.CX0 2 (He.fAd K d_law_sizes.at_) fd ["well"] (sp_law_sizes K) := by
  have c_law_draw := c_law_draw (P := P) (w := w) (base := base) T
  refine F.ok sc_law_sizes (fun vs H Q E h => ?_) (fun cdv A outer s H vs Q E hr h => ?_)
  · obtain ⟨a, n, rfl, _⟩ := h
    rfl
  · have hu := L2.hu_of hr
    obtain ⟨a, n, rfl, hs, hn, q⟩ := h
    refine ⟨_, (PSs.nox ((pss_cons (ps_set (i := 1) sc_law_sizes.nd rfl (by first | exact Or.inl rfl | exact Or.inr rfl) (pe_ix (My.ix_listK (K := K) rfl) (pe_lst (pa_cons pe_int (pa_cons pe_int (pa_cons pe_int pa_nil)))) (C8.pe_c c_law_draw hr (by decide) rfl (pa_cons (pv 0) (pa_cons pe_int pa_nil))) (fun _ _ => rfl)))
  (pss_cons (ps_set (i := 2) sc_law_sizes.nd rfl (by first | exact Or.inl rfl | exact Or.inr rfl) (pe_ix (My.ix_listK (K := K) rfl) (pe_lst (pa_cons (pe_op op_add pe_int (C8.pe_c c_law_draw hr (by decide) rfl (pa_cons (pv 0) (pa_cons pe_int pa_nil)))) (pa_cons (pe_op op_add pe_int (C8.pe_c c_law_draw hr (by decide) rfl (pa_cons (pv 0) (pa_cons pe_int pa_nil)))) pa_nil))) (C8.pe_c c_law_draw hr (by decide) rfl (pa_cons (pv 0) (pa_cons pe_int pa_nil))) (fun _ _ => rfl)))
  (pss_one (ps_ret (pe_callTy (My.tuple_ofK (K := K) rfl) (by rfl) T.tuple (by decide +kernel) (pa_cons (pe_lc (own := [("k", 3)]) (g := (gName 3)) (tt := tYes) (by rfl) sc_law_sizes.nd (pi_range1 (by rfl) T.range (pa_cons (pv 2) pa_nil)) (blkOk_by (N := N_law_sizes) (sc := defScope s_law_sizes) (by decide +kernel)) (fun _ _ _ _ _ => (pg_name (i := 3) sc_law_sizes.nd rfl (by first | exact Or.inl rfl | exact Or.inr rfl))) (fun _ _ _ _ _ => pts_nil) (fun _ _ _ _ _ => (pe_op op_add pe_int (C8.pe_c c_law_draw hr (by decide) rfl (pa_cons (pv 0) (pa_cons (pv 1) pa_nil)))))) pa_nil)))))))), ?_⟩
    refine ⟨by show 3 ≤ sizeLine; decide, fun b hb => ?_⟩
    have yb := same_new (o := .lst [.int 9, .int 3, .int 2]) hb
    have nab : b ≠ a := (hs.live hb).symm
    refine ⟨_, rfl, a, n, 3, rfl, hs.same yb, lt100 _ (by omega), by decide, by decide, fun H1 j b1 s1 j0 j1 => ?_⟩
    obtain ⟨m, hm, rfl⟩ : ∃ m : Nat, m < 3 ∧ j = (m : Int) := ⟨j.toNat, by omega, by omega⟩
    have hb1 := b1 _ _ (by simpa using nab) (upd_same (H := H) (a := b) (o := .lst [.int 9, .int 3, .int 2]))
    have key : ∃ d : Int, ([V.int 9, .int 3, .int 2] : List V)[m]? = some (.int d) ∧ 1 ≤ d ∧ d ≤ 9 := by
      match m, hm with
      | 0, _ => exact ⟨9, rfl, by decide, by decide⟩
      | 1, _ => exact ⟨3, rfl, by decide, by decide⟩
      | 2, _ => exact ⟨2, rfl, by decide, by decide⟩
    obtain ⟨most, hd, d1, d2⟩ := key
    refine ⟨b, _, _, _, rfl, rfl, SqL.of hb1, atI_nat hd, ?_⟩
    have b01 := (But.of yb : But [a] H _).trans b1
    refine ⟨_, rfl, a, n + 1, 4, rfl, s1, lt100 _ (by omega), by decide, by decide, fun H2 k2 b2 s2 k20 k21 => ⟨_, _, rfl, rfl, _, rfl, a, n + 2, 12, rfl, s2, lt100 _ (by omega), by decide, by decide, fun H3 k3 b3 s3 k30 k31 => ⟨_, _, rfl, rfl, by show 2 ≤ sizeLine; decide, fun c hc => ?_⟩⟩⟩
    have yc := same_new (o := .lst [.int (1 + k2), .int (1 + k3)]) hc
    have nac : c ≠ a := (s3.live hc).symm
    refine ⟨_, rfl, a, n + 3, 2, rfl, s3.same yc, lt100 _ (by omega), by decide, by decide, fun H4 j4 b4 s4 j40 j41 => ?_⟩
    obtain ⟨m4, hm4, rfl⟩ : ∃ m : Nat, m < 2 ∧ j4 = (m : Int) := ⟨j4.toNat, by omega, by omega⟩
    have hc4 := b4 _ _ (by simpa using nac) (upd_same (H := H3) (a := c) (o := .lst [.int (1 + k2), .int (1 + k3)]))
    have key : ∃ d : Int, ([V.int (1 + k2), .int (1 + k3)] : List V)[m4]? = some (.int d) ∧ 1 ≤ d ∧ d ≤ 12 := by
      match m4, hm4 with
      | 0, _ => exact ⟨1 + k2, rfl, by omega, by omega⟩
      | 1, _ => exact ⟨1 + k3, rfl, by omega, by omega⟩
    obtain ⟨many, hd4, y1, y2⟩ := key
    refine ⟨c, _, _, _, rfl, rfl, SqL.of hc4, atI_nat hd4, ?_⟩
    have b04 := ((b01.trans b2).trans b3).trans ((But.of yc : But [a] H3 _).trans b4)
    refine ⟨_, rfl, many, rfl, by omega, by omega, fun D hD => ?_⟩
    have naD : a ≠ D := s4.live hD
    have hHD : H D = none := b04.none (by simpa using naD.symm) hD
    refine lc_range (lo := 0) (n := many.toNat) (fun i H' => ∃ l : List Int, l.length = i ∧ But [a] H H' ∧ SpringAt H' a (n + 4 + i) ∧ H' D = some (.lst (l.map V.int)) ∧ ∀ x ∈ l, 1 ≤ x ∧ x ≤ 9) ⟨[], rfl, b04.put (.inl hHD), s4.put naD, upd_same, fun x hx => by cases hx⟩ ?_ ?_
    · rintro i H5 hi ⟨l, hl5, b5, s5, hD5, hr5⟩
      refine ⟨rfl, ?_⟩
      refine ⟨_, rfl, _, rfl, a, n + 4 + i, most, rfl, s5, lt100 _ (by omega), by omega, Int.lt_of_le_of_lt d2 (by decide), fun H6 k6 b6 s6 k60 k61 => ⟨_, _, rfl, rfl, ?_⟩⟩
      have hD6 := b6 _ _ (by simpa using naD.symm) hD5
      refine ⟨_, hD6, ?_, l ++ [1 + k6], by rw [List.length_append, hl5]; rfl, (b5.trans b6).put (.inl hHD), s6.put naD, by rw [upd_same, List.map_append]; rfl, fun z hz => ?_⟩
      · rw [List.length_map, hl5]
        exact lt_line (by omega)
      · rcases List.mem_append.mp hz with hz | hz
        · exact hr5 z hz
        · rw [List.mem_singleton.mp hz]
          omega
    · rintro H5 ⟨l, hl5, b5, s5, hD5, hr5⟩
      refine ⟨D, _, rfl, .inl ⟨SqL.of hD5, fun t ht => ?_⟩⟩
      have yt := same_new (o := .tup (l.map V.int)) ht
      exact q _ t l (b5.trans (But.of yt)) ((s5.same yt).mono (by omega)) (SqT.of upd_same) ⟨by omega, by omega, hr5⟩
theorem c_law_sizes (T : Txt w K mg) : C8.Cal P w K mg base 2 "_law_sizes" (sp_law_sizes K) [] := by
  obtain ⟨fd, F⟩ := T.f_law_sizes
  exact ⟨_, fd, _, _, ok_law_sizes T F, T.g_law_sizes, F.kp, F.bindsN (fun _ _ _ _ _ _ us hl => match us, hl with | [_], _ => rfl), .nil⟩
end
end K67

namespace K67
open PySem PySem.Spec PyProof.Rows L2 My StX
theorem new_ruleW {K : PySem.W.Frag} {H : Hp} {t : Addr} {r : RuleL} (h : H t = none) : Same H (upd H t (.tup (r.map V.str))) ∧ RuleAt K (upd H t (.tup (r.map V.str))) t r := ⟨same_new h, SqT.of upd_same⟩
abbrev rulesW : List RuleL := [["void", "full"], ["look", "code"], ["lock", "look", "code"], [], ["look"], ["lock", "look"], [], []]
theorem good_allW {rs : List RuleL} (h : (rs.all fun r => decide (r.length ≤ 6) && r.all fun x => decide (x ∈ acts)) = true) : ∀ r ∈ rs, GoodRule r := fun r hr => by
  obtain ⟨h1, h2⟩ := Bool.and_eq_true_iff.mp (List.all_eq_true.mp h r hr)
  exact ⟨of_decide_eq_true h1, fun x hx => of_decide_eq_true (List.all_eq_true.mp h2 x hx)⟩
theorem paired_setW {α β : Type} {F : α → β → Prop} {a : α} {b : β} (r : F a b) : ∀ (j : Nat) {l : List α} {m : List β}, Paired F l m → Paired F (l.set j a) (m.set j b)
  | _, _, _, .nil => .nil
  | 0, _, _, .cons _ t => .cons r t
  | j + 1, _, _, .cons q t => .cons q (paired_setW r j t)
section
variable {P : Program} {w : World} {K : PySem.W.Frag} {mg : Str → Option Value} {base : Heap}
structure RulW (K : PySem.W.Frag) (a D : Addr) (H H' : Hp) (m : Nat) (as : List Addr) (rs : List RuleL) : Prop where
  b : But [a] H H'
  s : SpringAt H' a m
  d : H' D = some (.lst (as.map V.ref))
  d0 : H D = none
  na : D ≠ a
  pr : Paired (RuleAt K H') as rs
  len : rs.length = 8
  good : ∀ r ∈ rs, GoodRule r
theorem RulW.draw {a D : Addr} {H H1 H2 : Hp} {m m2 : Nat} {as : List Addr} {rs : List RuleL} (h : RulW K a D H H1 m as rs) (b : But [a] H1 H2) (s : SpringAt H2 a m2) : RulW K a D H H2 m2 as rs :=
  ⟨h.b.trans b, s, b _ _ (by simpa using h.na) h.d, h.d0, h.na, paired_map (fun x y _ hx => But.tupS b h.s hx) h.pr, h.len, h.good⟩
def sp_law_rules (K : PySem.W.Frag) : Sp := fun vs H Q _ => ∃ (a : Addr) (n : Nat), vs = [.ref a] ∧ SpringAt H a n ∧ n ≤ 40000 ∧ ∀ H' rl rs, But [a] H H' → SpringAt H' a (n + 70) → RulesAt K H' rl rs → GoodB rs → H rl = none → Q (.ref rl) H'
set_option maxHeartbeats 2000000 in
theorem ok_law_rules (T : Txt w K mg) {fd : FuncData} (F : FunD K d_law_rules.name d_law_rules.qual d_law_rules.params d_law_rules.body d_law_rules.scope (d_law_rules.dvs K) (d_law_rules.kws K) (He.fAd K d_law_rules.at_) fd) : FnOk P w K mg base C8.CX0 4 (He.fAd K d_law_rules.at_) fd ["well"] (sp_law_rules K) := by
  have c_law_draw := c_law_draw (P := P) (w := w) (base := base) T
  have c_law_any_rule := c_law_any_rule (P := P) (w := w) (base := base) T
  refine F.ok sc_law_rules (fun vs H Q E h => ?_) (fun cdv A outer s H vs Q E hr h => ?_)
  · obtain ⟨a, n, rfl, _⟩ := h
    rfl
  · have hu := L2.hu_of hr
    obtain ⟨a, n, rfl, hs, hn, q⟩ := h
    refine ⟨_, (PSs.nox ((pss_cons (ps_if (pt_cmpR op_eq (C8.pe_c c_law_draw hr (by decide) rfl (pa_cons (pv 0) (pa_cons pe_int pa_nil))) pe_int (nomark _))
  (pss_one (ps_ret (pe_lc (own := [("k", 1)]) (g := (gName 1)) (tt := tYes) (by rfl) sc_law_rules.nd (pi_range1 (by rfl) T.range (pa_cons pe_int pa_nil)) (blkOk_by (N := N_law_rules) (sc := defScope s_law_rules) (by decide +kernel)) (fun _ _ _ _ _ => (pg_name (i := 1) sc_law_rules.nd rfl (by first | exact Or.inl rfl | exact Or.inr rfl))) (fun _ _ _ _ _ => pts_nil) (fun _ _ _ _ _ => (C8.pe_c c_law_any_rule hr (by decide) rfl (pa_cons (pv 0) pa_nil))))))
  pss_nil)
  (pss_cons (ps_set (i := 2) sc_law_rules.nd rfl (by first | exact Or.inl rfl | exact Or.inr rfl) (pe_lst (pa_cons (pe_tup (pa_cons pe_str (pa_cons pe_str pa_nil))) (pa_cons (pe_tup (pa_cons pe_str (pa_cons pe_str pa_nil))) (pa_cons (pe_tup (pa_cons pe_str (pa_cons pe_str (pa_cons pe_str pa_nil)))) (pa_cons (pe_tup pa_nil) (pa_cons (pe_tup (pa_cons pe_str pa_nil)) (pa_cons (pe_tup (pa_cons pe_str (pa_cons pe_str pa_nil))) (pa_cons (pe_tup pa_nil) (pa_cons (pe_tup pa_nil) pa_nil))))))))))
  (pss_cons (ps_for PassesOwn.never rfl (pi_range1 (by rfl) T.range (pa_cons (C8.pe_c c_law_draw hr (by decide) rfl (pa_cons (pv 0) (pa_cons pe_int pa_nil))) pa_nil)) (pg_name (i := 3) sc_law_rules.nd rfl (by first | exact Or.inl rfl | exact Or.inr rfl))
  (pss_cons (ps_set (i := 4) sc_law_rules.nd rfl (by first | exact Or.inl rfl | exact Or.inr rfl) (C8.pe_c c_law_draw hr (by decide) rfl (pa_cons (pv 0) (pa_cons pe_int pa_nil))))
  (pss_one (ps_asg (C8.pe_c c_law_any_rule hr (by decide) rfl (pa_cons (pv 0) pa_nil)) (pg_sub (pv 2) (pv 4) set_list)))))
  (pss_one (ps_ret (pv 2)))))))), ?_⟩
    refine ⟨_, rfl, a, n, 4, rfl, hs, lt100 _ (by omega), by decide, by decide, fun H1 k b1 s1 k0 k1 => ⟨rfl, _, rfl, L2.ite2 (fun c => ?_) (fun c => ?_)⟩⟩
    · refine ⟨8, rfl, by decide, by decide, fun D hD => ?_⟩
      have naD : a ≠ D := s1.live hD
      have hHD : H D = none := b1.none (by simpa using naD.symm) hD
      refine lc_range (lo := 0) (n := (8 : Int).toNat) (fun i H' => ∃ (as : List Addr) (rs : List RuleL), rs.length = i ∧ But [a] H H' ∧ SpringAt H' a (n + 1 + 7 * i) ∧ H' D = some (.lst (as.map V.ref)) ∧ Paired (RuleAt K H') as rs ∧ ∀ r ∈ rs, GoodRule r) ⟨[], [], rfl, b1.put (.inl hHD), s1.put naD, upd_same, .nil, fun x hx => by cases hx⟩ ?_ ?_
      · rintro i H2 hi ⟨as, rs, hl2, b2, s2, hD2, hp2, hr2⟩
        have hi8 : i < 8 := hi
        refine ⟨rfl, ?_⟩
        refine ⟨_, rfl, a, _, rfl, s2, by omega, fun H3 p r b3 s3 hr hgr => ?_⟩
        have hD3 := b3 _ _ (by simpa using naD.symm) hD2
        refine ⟨_, hD3, ?_, as ++ [p], rs ++ [r], by rw [List.length_append, hl2]; rfl, (b2.trans b3).put (.inl hHD), ((s3.put naD).mono (by omega)), by rw [upd_same, List.map_append]; rfl, paired_app (paired_map (fun _ _ _ x => tupU hD3 (But.tupS b3 s2 x)) hp2) (.cons (tupU hD3 hr) .nil), fun z hz => ?_⟩
        · rw [List.length_map, hp2.length, hl2]
          exact lt_line (by omega)
        · rcases List.mem_append.mp hz with hz | hz
          · exact hr2 z hz
          · rw [List.mem_singleton.mp hz]; exact hgr
      · rintro H2 ⟨as, rs, hl2, b2, s2, hD2, hp2, hr2⟩
        exact q _ D rs b2 (s2.mono (by show n + 1 + 7 * 8 ≤ n + 70; omega)) ⟨as, hD2, hp2⟩ ⟨hl2, hr2⟩ hHD
    · refine ⟨by show 2 ≤ sizeLine; decide, fun t0 ht0 => ⟨by show 2 ≤ sizeLine; decide, fun t1 ht1 => ⟨by show 3 ≤ sizeLine; decide, fun t2 ht2 => ⟨by show 0 ≤ sizeLine; decide, fun t3 ht3 => ⟨by show 1 ≤ sizeLine; decide, fun t4 ht4 => ⟨by show 2 ≤ sizeLine; decide, fun t5 ht5 => ⟨by show 0 ≤ sizeLine; decide, fun t6 ht6 => ⟨by show 0 ≤ sizeLine; decide, fun t7 ht7 => ⟨by show 8 ≤ sizeLine; decide, fun D hD => ?_⟩⟩⟩⟩⟩⟩⟩⟩⟩
      have nt0 := new_ruleW (K := K) (r := ["void", "full"]) ht0
      have nt1 := new_ruleW (K := K) (r := ["look", "code"]) ht1
      have nt2 := new_ruleW (K := K) (r := ["lock", "look", "code"]) ht2
      have nt3 := new_ruleW (K := K) (r := []) ht3
      have nt4 := new_ruleW (K := K) (r := ["look"]) ht4
      have nt5 := new_ruleW (K := K) (r := ["lock", "look"]) ht5
      have nt6 := new_ruleW (K := K) (r := []) ht6
      have nt7 := new_ruleW (K := K) (r := []) ht7
      have nD := same_new (o := .lst (([t0, t1, t2, t3, t4, t5, t6, t7] : List Addr).map V.ref)) hD
      have e7 := nD
      have e6 := nt7.1.trans e7
      have e5 := nt6.1.trans e6
      have e4 := nt5.1.trans e5
      have e3 := nt4.1.trans e4
      have e2 := nt3.1.trans e3
      have e1 := nt2.1.trans e2
      have e0 := nt1.1.trans e1
      have all := nt0.1.trans e0
      have pre := (((((((nt0.1.trans nt1.1).trans nt2.1).trans nt3.1).trans nt4.1).trans nt5.1).trans nt6.1).trans nt7.1)
      have prt : Paired (RuleAt K _) [t0, t1, t2, t3, t4, t5, t6, t7] rulesW := .cons (same_tup e0 nt0.2) (.cons (same_tup e1 nt1.2) (.cons (same_tup e2 nt2.2) (.cons (same_tup e3 nt3.2) (.cons (same_tup e4 nt4.2) (.cons (same_tup e5 nt5.2) (.cons (same_tup e6 nt6.2) (.cons (same_tup e7 nt7.2) (.nil))))))))
      have naD : D ≠ a := (s1.live (pre.free hD)).symm
      have hHD : H D = none := b1.none (by simpa using naD) (pre.free hD)
      have st0 : RulW K a D H _ (n + 1) [t0, t1, t2, t3, t4, t5, t6, t7] rulesW := ⟨b1.trans (But.of all), s1.same all, upd_same, hHD, naD, prt, rfl, good_allW (by decide +kernel)⟩
      refine ⟨_, rfl, a, n + 1, 4, rfl, st0.s, lt100 _ (by omega), by decide, by decide, fun H3 k3 b3 s3 k30 k31 => ⟨k3, rfl, by omega, by omega, ?_⟩⟩
      refine for_range (lo := 0) (n := k3.toNat) (fun i σ H' => ∃ (u v : Option V) (as : List Addr) (rs : List RuleL), σ = [some (.ref a), none, some (.ref D), u, v] ∧ RulW K a D H H' (n + 2 + 8 * i) as rs) ⟨_, _, _, _, rfl, st0.draw b3 s3⟩ ?_ ?_
      · rintro i σ H4 hi ⟨u, v, as, rs, rfl, st4⟩
        refine ⟨_, rfl, a, _, 8, rfl, st4.s, lt100 _ (by omega), by decide, by decide, fun H5 k5 b5 s5 k50 k51 => ?_⟩
        have st5 := st4.draw b5 s5
        obtain ⟨j, rfl⟩ : ∃ j : Nat, k5 = (j : Int) := ⟨k5.toNat, by omega⟩
        have hj : j < 8 := by omega
        refine ⟨_, rfl, a, _, rfl, st5.s, by omega, fun H6 p r b6 s6 hr hgr => ?_⟩
        have st6 := st5.draw b6 s6
        have hal : as.length = 8 := st6.pr.length.trans st6.len
        have es : (as.map V.ref).set j (.ref p) = (as.set j p).map V.ref := by rw [List.map_set]
        refine ⟨_, rfl, _, rfl, D, _, _, j, rfl, rfl, st6.d, ixN_nat (by rw [List.length_map, hal]; exact hj), _, _, as.set j p, rs.set j r, rfl, ?_⟩
        rw [es]
        refine ⟨st6.b.put (.inl st6.d0), (st6.s.put st6.na.symm).mono (by omega), upd_same, st6.d0, st6.na, paired_setW (F := RuleAt K (upd H6 D (.lst ((as.set j p).map V.ref)))) (tupU st6.d hr) j (paired_map (fun x y _ hx => tupU st6.d hx) st6.pr), by rw [List.length_set]; exact st6.len, fun y hy => ?_⟩
        rcases List.mem_or_eq_of_mem_set hy with hy | hy
        · exact st6.good y hy
        · rw [hy]; exact hgr
      · rintro σ H4 ⟨u, v, as, rs, rfl, st4⟩
        exact ⟨_, rfl, q _ D rs st4.b (st4.s.mono (by omega)) ⟨as, st4.d, st4.pr⟩ ⟨st4.len, st4.good⟩ st4.d0⟩
theorem c_law_rules (T : Txt w K mg) : C8.Cal P w K mg base 4 "_law_rules" (sp_law_rules K) [] := by
  obtain ⟨fd, F⟩ := T.f_law_rules
  exact ⟨_, fd, _, _, ok_law_rules T F, T.g_law_rules, F.kp, F.bindsN (fun _ _ _ _ _ _ us hl => match us, hl with | [_], _ => rfl), .nil⟩
def sp_law_plain (K : PySem.W.Frag) : Sp := fun vs H Q _ => ∃ (rl : Addr) (d : Int) (rs : List RuleL), vs = [.int d, .ref rl] ∧ RulesAt K H rl rs ∧ GoodB rs ∧ 1 ≤ d ∧ d ≤ 30 ∧ ∀ H' b, H b = none → Same H H' → BookAt K H' b d rs → Q (.ref b) H'
set_option maxHeartbeats 2000000 in
theorem ok_law_plain (T : Txt w K mg) {fd : FuncData} (F : FunD K d_law_plain.name d_law_plain.qual d_law_plain.params d_law_plain.body d_law_plain.scope (d_law_plain.dvs K) (d_law_plain.kws K) (He.fAd K d_law_plain.at_) fd) : FnOk P w K mg base C8.CX0 5 (He.fAd K d_law_plain.at_) fd ["number", "rules"] (sp_law_plain K) := by
  have c_Book_init := c_Book_init (P := P) (w := w) (base := base) T
  refine F.ok sc_law_plain (fun vs H Q E h => ?_) (fun cdv A outer s H vs Q E hr h => ?_)
  · obtain ⟨rl, d, rs, rfl, _⟩ := h
    rfl
  · have hu := L2.hu_of hr
    obtain ⟨rl, d, rs, rfl, ⟨as, ht1, h3⟩, hg, h1, h2, q⟩ := h
    refine ⟨_, (PSs.nox ((pss_one (ps_ret (C8.pe_mk c_Book_init hr (by decide) rfl (pa_cons (pv 0) (pa_cons (pe_ix (My.ix_listK (K := K) rfl) (pv 1) pe_int (fun _ _ => rfl)) (pa_cons (pe_ix (My.ix_listK (K := K) rfl) (pv 1) pe_int (fun _ _ => rfl)) (pa_cons (pe_ix (My.ix_listK (K := K) rfl) (pv 1) pe_int (fun _ _ => rfl)) (pa_cons (pe_ix (My.ix_listK (K := K) rfl) (pv 1) pe_int (fun _ _ => rfl)) (pa_cons (pe_ix (My.ix_listK (K := K) rfl) (pv 1) pe_int (fun _ _ => rfl)) (pa_cons (pe_ix (My.ix_listK (K := K) rfl) (pv 1) pe_int (fun _ _ => rfl)) (pa_cons (pe_ix (My.ix_listK (K := K) rfl) (pv 1) pe_int (fun _ _ => rfl)) (pa_cons (pe_ix (My.ix_listK (K := K) rfl) (pv 1) pe_int (fun _ _ => rfl)) pa_nil)))))))))))))), ?_⟩
    obtain ⟨a0, a1, a2, a3, a4, a5, a6, a7, rfl⟩ := len8 h3 hg.len
    refine ⟨_, rfl, ?_⟩
    iterate 8 refine ⟨_, rfl, rl, _, _, _, rfl, rfl, SqL.of ht1, rfl, ?_⟩
    intro x dx nx ndx nex
    have s0 : Same H (upd (upd H dx (.own x)) x (.ins (He.ga K "Book") dx [])) := (same_new ndx).trans (same_upd (Same.refl _) (by rw [upd_ne nex.symm]; exact nx))
    refine ⟨x, dx, d, _, rs, rfl, upd_same, h1, h2, paired_map (fun a r _ hr => same_tup s0 hr) h3, hg.len, hg.good, fun H' t2 bt hx ht => ⟨rfl, ?_⟩⟩
    have s1 : Same H H' := fun c o e => bt c o (by simpa using ne_of_none e nx) (s0 _ _ e)
    exact q _ x nx s1 ⟨dx, t2, _, hx, SqT.of ht, paired_map (fun a r _ hr => same_tup s1 hr) h3, hg.len⟩
theorem c_law_plain (T : Txt w K mg) : C8.Cal P w K mg base 5 "_law_plain" (sp_law_plain K) [] := by
  obtain ⟨fd, F⟩ := T.f_law_plain
  exact ⟨_, fd, _, _, ok_law_plain T F, T.g_law_plain, F.kp, F.bindsN (fun _ _ _ _ _ _ us hl => match us, hl with | [_, _], _ => rfl), .nil⟩
end
end K67

namespace K67
open PySem PySem.Spec PyProof.Rows L2 My StX
section
variable {P : Program} {w : World} {K : PySem.W.Frag} {mg : Str → Option Value} {base : Heap}
def sp_law_book (K : PySem.W.Frag) : Sp := fun vs H Q _ => ∃ (rl : Addr) (d way : Int) (rs : List RuleL), vs = [.int d, .ref rl, .int way] ∧ RulesAt K H rl rs ∧ GoodB rs ∧ 1 ≤ d ∧ d ≤ 30 ∧ ∀ H' b, H b = none → Same H H' → BookAt K H' b d rs → Q (.ref b) H'
set_option maxHeartbeats 2000000 in
theorem ok_law_book (T : Txt w K mg) {fd : FuncData} (F : FunD K d_law_book.name d_law_book.qual d_law_book.params d_law_book.body d_law_book.scope (d_law_book.dvs K) (d_law_book.kws K) (He.fAd K d_law_book.at_) fd) : FnOk P w K mg base C8.CX0 6 (He.fAd K d_law_book.at_) fd ["number", "rules", "way"] (sp_law_book K) := by
  have c_law_plain := c_law_plain (P := P) (w := w) (base := base) T
  have c_Book_taking := c_Book_taking (P := P) (w := w) (base := base) T
  have kn_Book_init_none := kn_Book_init_none (P := P) (w := w) (base := base) T
  have c_Book_with_rule := c_Book_with_rule (P := P) (w := w) (base := base) T
  have c_Book_with_days := c_Book_with_days (P := P) (w := w) (base := base) T
  have c_read_book := c_read_book (P := P) (w := w) (base := base) T
  have c_book_text := c_book_text (P := P) (w := w) (base := base) T
  refine F.ok sc_law_book (fun vs H Q E h => ?_) (fun cdv A outer s H vs Q E hr h => ?_)
  · obtain ⟨rl, d, way, rs, rfl, _⟩ := h
    rfl
  · have hu := L2.hu_of hr
    obtain ⟨rl, d, way, rs, rfl, hR, hg, h1, h2, q⟩ := h
    refine ⟨_, (PSs.nox ((pss_cons (ps_if (pt_cmpR op_eq (pv 2) pe_int (nomark _))
  (pss_one (ps_ret (C8.pe_c c_read_book hr (by decide) rfl (pa_cons (C8.pe_c c_book_text hr (by decide) rfl (pa_cons (C8.pe_c c_law_plain hr (by decide) rfl (pa_cons (pv 0) (pa_cons (pv 1) pa_nil))) pa_nil)) pa_nil))))
  pss_nil)
  (pss_cons (ps_if (pt_cmpR op_eq (pv 2) pe_int (nomark _))
  (pss_cons (ps_set (i := 3) sc_law_book.nd rfl (by first | exact Or.inl rfl | exact Or.inr rfl) (C8.pe_c c_law_plain hr (by decide) rfl (pa_cons (pe_op op_add (pe_op op_mod (pv 0) pe_int) pe_int) (pa_cons (pe_op op_cat (pe_op op_cat (pe_lst (pa_cons (pe_tup (pa_cons pe_str pa_nil)) pa_nil)) (pe_slice (My.sl_listK (K := K) rfl) (pv 1) (po_some pe_int) (po_some pe_int))) (pe_lst (pa_cons (pe_tup (pa_cons pe_str pa_nil)) pa_nil))) pa_nil))))
  (pss_one (ps_ret (C8.pe_mt c_Book_with_rule hr (by decide) (C8.pe_mt c_Book_with_days hr (by decide) (C8.pe_mt c_Book_with_rule hr (by decide) (pv 3) (pa_cons pe_str (pa_cons (pe_ix (My.ix_listK (K := K) rfl) (pv 1) pe_int (fun _ _ => rfl)) pa_nil))) (pa_cons (pv 0) pa_nil)) (pa_cons pe_str (pa_cons (pe_ix (My.ix_listK (K := K) rfl) (pv 1) pe_int (fun _ _ => rfl)) pa_nil))))))
  pss_nil)
  (pss_cons (ps_if (pt_cmpR op_eq (pv 2) pe_int (nomark _))
  (pss_cons (ps_set (i := 4) sc_law_book.nd rfl (by first | exact Or.inl rfl | exact Or.inr rfl) (pe_tup (pa_cons pe_str (pa_cons pe_str (pa_cons pe_str (pa_cons pe_str (pa_cons pe_str (pa_cons pe_str (pa_cons pe_str (pa_cons pe_str pa_nil))))))))))
  (pss_one (ps_ret (C8.pe_mt c_Book_taking hr (by decide) (My.pe_mkN kn_Book_init_none hr (by decide) rfl (pa_cons (pv 0) pa_nil) pk_nil) (pa_cons (C8.pe_c c_law_plain hr (by decide) rfl (pa_cons pe_int (pa_cons (pv 1) pa_nil))) (pa_cons (pv 4) pa_nil))))))
  pss_nil)
  (pss_one (ps_ret (C8.pe_c c_law_plain hr (by decide) rfl (pa_cons (pv 0) (pa_cons (pv 1) pa_nil)))))))))), ?_⟩
    refine ⟨_, rfl, rfl, _, rfl, L2.ite2 (fun c => ?_) (fun _ => ?_)⟩
    · clear c
      refine ⟨_, rfl, _, rfl, rl, d, rs, rfl, hR, hg, h1, h2, fun H1 b nb s1 hB => ?_⟩
      refine ⟨b, d, rs, rfl, hB, hg, h1, h2, fun H2 s2 => ?_⟩
      exact ⟨d, rs, rfl, hg, h1, h2, fun H3 b3 nb3 s3 hB3 => q H3 b3 ((s1.trans s2).free nb3) ((s1.trans s2).trans s3) hB3⟩
    refine ⟨_, rfl, rfl, _, rfl, L2.ite2 (fun c => ?_) (fun _ => ?_)⟩
    · clear c
      obtain ⟨as, hrl, h3⟩ := id hR
      obtain ⟨a0, a1, a2, a3, a4, a5, a6, a7, rfl⟩ := len8 h3 hg.len
      obtain ⟨r0, r1, r2, r3, r4, r5, r6, r7, rfl⟩ := len8r hg.len
      refine ⟨_, rfl, _, _, rfl, rfl, (by show (0 : Int) < 30; decide), _, _, rfl, rfl, ?_⟩
      refine ⟨by show 1 ≤ sizeLine; decide, fun u nu => ⟨by show 1 ≤ sizeLine; decide, fun l1 nl1 => ?_⟩⟩
      have yu := same_new (o := .tup [V.str "off"]) nu
      have yl1 := same_new (o := .lst [V.ref u]) nl1
      have hr1 := yl1 _ _ (yu _ _ hrl)
      refine ⟨_, rfl, 1, rfl, 7, rfl, rl, _, rfl, SqL.of hr1, fun l2 nl2 => ?_⟩
      have yl2 := same_new (o := .lst (cutV ([a0, a1, a2, a3, a4, a5, a6, a7].map V.ref) (some 1) (some 7))) nl2
      have ecut : cutV ([a0, a1, a2, a3, a4, a5, a6, a7].map V.ref) (some 1) (some 7) = [a1, a2, a3, a4, a5, a6].map V.ref := rfl
      refine ⟨l1, l2, _, _, rfl, rfl, yl2 _ _ upd_same, upd_same, by rw [ecut]; show 1 + 6 ≤ sizeLine; decide, fun l3 nl3 => ?_⟩
      rw [ecut] at yl2 nl3 ⊢
      have yl3 := same_new (o := .lst ([V.ref u] ++ [a1, a2, a3, a4, a5, a6].map V.ref)) nl3
      refine ⟨by show 1 ≤ sizeLine; decide, fun v nv => ⟨by show 1 ≤ sizeLine; decide, fun l4 nl4 => ?_⟩⟩
      have yv := same_new (o := .tup [V.str "lock"]) nv
      have yl4 := same_new (o := .lst [V.ref v]) nl4
      refine ⟨l3, l4, _, _, rfl, rfl, yl4 _ _ (yv _ _ upd_same), upd_same, by show 7 + 1 ≤ sizeLine; decide, fun l5 nl5 => ?_⟩
      have yl5 := same_new (o := .lst ([V.ref u] ++ [a1, a2, a3, a4, a5, a6].map V.ref ++ [V.ref v])) nl5
      have z3 := ((yl1.trans yl2).trans yl3)
      have z5 := (z3.trans yv).trans (yl4.trans yl5)
      have zz := yu.trans z5
      have ru : RuleAt K _ u ["off"] := same_tup z5 (SqT.of upd_same)
      have rv : RuleAt K _ v ["lock"] := same_tup (yl4.trans yl5) (SqT.of upd_same)
      have h3z := paired_map (fun _ _ _ x => same_tup zz x) h3
      cases h3z with | cons p0 h3z =>
      cases h3z with | cons p1 h3z =>
      cases h3z with | cons p2 h3z =>
      cases h3z with | cons p3 h3z =>
      cases h3z with | cons p4 h3z =>
      cases h3z with | cons p5 h3z =>
      cases h3z with | cons p6 h3z =>
      cases h3z with | cons p7 h3z =>
      have gr : ∀ i, (h : i < 8) → GoodRule (([r0, r1, r2, r3, r4, r5, r6, r7] : List RuleL)[i]) := fun i h => hg.good _ (List.getElem_mem _)
      have g2 : GoodB [["off"], r1, r2, r3, r4, r5, r6, ["lock"]] := ⟨rfl, fun r hr => by
        simp only [List.mem_cons, List.not_mem_nil, or_false] at hr
        rcases hr with rfl | rfl | rfl | rfl | rfl | rfl | rfl | rfl
        · exact good_off
        · exact gr 1 (by decide)
        · exact gr 2 (by decide)
        · exact gr 3 (by decide)
        · exact gr 4 (by decide)
        · exact gr 5 (by decide)
        · exact gr 6 (by decide)
        · exact good_allW (rs := [["lock"]]) (by decide +kernel) _ (by simp)⟩
      have dd : (1 : Int) ≤ d % 30 + 1 ∧ d % 30 + 1 ≤ 30 := by omega
      refine ⟨l5, d % 30 + 1, [["off"], r1, r2, r3, r4, r5, r6, ["lock"]], rfl, ⟨[u, a1, a2, a3, a4, a5, a6, v], upd_same, .cons ru (.cons p1 (.cons p2 (.cons p3 (.cons p4 (.cons p5 (.cons p6 (.cons rv .nil)))))))⟩, g2, dd.1, dd.2, fun H2 b nb s2 hB => ?_⟩
      have zb := zz.trans s2
      obtain ⟨dxb, tb, qb, hbb, _⟩ := id hB
      refine ⟨_, rfl, b, dxb, _, rfl, hbb, rfl, _, rfl, rl, _, _, _, rfl, rfl, SqL.of (zb _ _ hrl), rfl, ?_⟩
      refine ⟨b, a7, d % 30 + 1, _, "power", 7, r7, rfl, hB, rfl, same_tup s2 p7, gr 7 (by decide), g2.good, dd.1, dd.2, fun H3 b3 nb3 s3 hB3 => ?_⟩
      have g3 : GoodB [["off"], r1, r2, r3, r4, r5, r6, r7] := ⟨rfl, fun r hr => by
        simp only [List.mem_cons, List.not_mem_nil, or_false] at hr
        rcases hr with rfl | rfl | rfl | rfl | rfl | rfl | rfl | rfl
        · exact good_off
        · exact gr 1 (by decide)
        · exact gr 2 (by decide)
        · exact gr 3 (by decide)
        · exact gr 4 (by decide)
        · exact gr 5 (by decide)
        · exact gr 6 (by decide)
        · exact gr 7 (by decide)⟩
      obtain ⟨dx3, t3, q3, hb3, _⟩ := id hB3
      refine ⟨b3, dx3, _, rfl, hb3, rfl, _, rfl, ?_⟩
      refine ⟨b3, d % 30 + 1, d, _, rfl, hB3, g3, h1, h2, fun H4 b4 nb4 s4 hB4 => ?_⟩
      obtain ⟨dx4, t4, q4, hb4, _⟩ := id hB4
      have z4 := (zb.trans s3).trans s4
      refine ⟨b4, dx4, _, rfl, hb4, rfl, _, rfl, rl, _, _, _, rfl, rfl, SqL.of (z4 _ _ hrl), rfl, ?_⟩
      refine ⟨b4, a0, d, _, "given", 0, r0, rfl, hB4, rfl, same_tup ((s2.trans s3).trans s4) p0, gr 0 (by decide), g3.good, h1, h2, fun H5 b5 nb5 s5 hB5 => ?_⟩
      exact q H5 b5 (z4.free nb5) (z4.trans s5) hB5
    refine ⟨_, rfl, rfl, _, rfl, L2.ite2 (fun c => ?_) (fun _ => ?_)⟩
    · clear c
      refine ⟨by show 8 ≤ sizeLine; decide, fun m nm => ?_⟩
      let ms : List Str := ["power", "late", "gone", "taken", "opened", "left", "laid", "given"]
      have ym := same_new (o := .tup (ms.map V.str)) nm
      have hm1 : SqT K (upd H m (.tup (ms.map V.str))) m (ms.map V.str) := SqT.of upd_same
      have hR1 := hR.same ym
      show Ends.nx _ _ (upd H m (.tup (ms.map V.str)))
      generalize upd H m (.tup (ms.map V.str)) = H1 at ym hm1 hR1
      refine ⟨_, rfl, rfl, rfl, ?_⟩
      intro x dx nx ndx nex
      have t0 : Same H1 (upd (upd H1 dx (.own x)) x (.ins (He.ga K "Book") dx [])) := (same_new ndx).trans (same_upd (Same.refl _) (by rw [upd_ne nex.symm]; exact nx))
      have pre : ∀ HH : Hp, Paired (RuleAt K HH) [He.dflAt ("Book", some "__init__") 0 K, He.dflAt ("Book", some "__init__") 1 K, He.dflAt ("Book", some "__init__") 2 K, He.dflAt ("Book", some "__init__") 3 K, He.dflAt ("Book", some "__init__") 4 K, He.dflAt ("Book", some "__init__") 5 K, He.dflAt ("Book", some "__init__") 6 K, He.dflAt ("Book", some "__init__") 7 K] [[], [], [], [], [], [], [], []] := fun HH =>
        .cons (T.dfl_Book_init_0 _) (.cons (T.dfl_Book_init_1 _) (.cons (T.dfl_Book_init_2 _) (.cons (T.dfl_Book_init_3 _) (.cons (T.dfl_Book_init_4 _) (.cons (T.dfl_Book_init_5 _) (.cons (T.dfl_Book_init_6 _) (.cons (T.dfl_Book_init_7 _) .nil)))))))
      have gn : GoodB [[], [], [], [], [], [], [], []] := ⟨rfl, fun r hr => by rw [List.eq_of_mem_replicate (n := 8) (a := ([] : RuleL)) hr]; exact good_nil⟩
      refine ⟨x, dx, d, _, [[], [], [], [], [], [], [], []], rfl, upd_same, h1, h2, pre _, rfl, gn.good, fun H3 t2 bt hx ht => ⟨rfl, ?_⟩⟩
      have t1 : Same H1 H3 := fun c o e => bt c o (by simpa using ne_of_none e nx) (t0 _ _ e)
      have hM : BookAt K H3 x d [[], [], [], [], [], [], [], []] := ⟨dx, t2, _, hx, SqT.of ht, pre _, rfl⟩
      refine ⟨x, dx, _, rfl, hx, rfl, _, rfl, rl, 30, rs, rfl, hR1.same t1, hg, by decide, by decide, fun H4 b4 nb4 s4 hB4 => ?_⟩
      have z4 := t1.trans s4
      refine ⟨_, rfl, x, b4, m, d, 30, _, rs, ms, rfl, hM.same s4, hB4, gn, hg, same_tup z4 hm1, by decide +kernel, by decide, fun z hz => ?_, h1, h2, fun H5 b5 nb5 s5 hB5 => ?_⟩
      · have : ∀ z ∈ ms, z ∈ moms := by decide +kernel
        exact this z hz
      · obtain ⟨r0, r1, r2, r3, r4, r5, r6, r7, rfl⟩ := len8r hg.len
        have e : takeR ms [[], [], [], [], [], [], [], []] [r0, r1, r2, r3, r4, r5, r6, r7] = [r0, r1, r2, r3, r4, r5, r6, r7] := by rw [takeR_by [true, true, true, true, true, true, true, true] (by decide +kernel)]; rfl
        rw [e] at hB5
        exact q H5 b5 (ym.free ((t1.trans s4).free nb5)) ((ym.trans (t1.trans s4)).trans s5) hB5
    exact ⟨_, rfl, _, rfl, rl, d, rs, rfl, hR, hg, h1, h2, fun H1 b nb s1 hB => q H1 b nb s1 hB⟩
theorem c_law_book (T : Txt w K mg) : C8.Cal P w K mg base 6 "_law_book" (sp_law_book K) [] := by
  obtain ⟨fd, F⟩ := T.f_law_book
  exact ⟨_, fd, _, _, ok_law_book T F, T.g_law_book, F.kp, F.bindsN (fun _ _ _ _ _ _ us hl => match us, hl with | [_, _, _], _ => rfl), .nil⟩
end
end K67

namespace K67
open PySem PySem.Spec PyProof.Rows L2 My StX
theorem LB5.more {as : List Addr} {H : Hp} {bx L : Addr} {S : BoxS} (h : LB5 as H bx S) (hL : H L = none) : LB5 (L :: as) H bx S := h.new hL
theorem LB5.sub {as bs : List Addr} {H : Hp} {bx : Addr} {S : BoxS} (m : ∀ a ∈ bs, a ∈ as) (h : LB5 as H bx S) : LB5 bs H bx S := by
  obtain ⟨l1, l3, ys, h1, h2, h3, h4, h5, h6, h7, h8, h9, h10⟩ := h
  exact ⟨l1, l3, ys, h1, h2, h3, h4, h5, h6, h7, h8, fun z => h9 (m _ z), fun z => h10 (m _ z)⟩
theorem RmAt.more {as : List Addr} {H : Hp} {rm hm L : Addr} {bxs : List Addr} {boxes : List BoxS} {given : List (Option Nat)} (n : H L = none) (h : RmAt as H rm hm bxs boxes given) : RmAt (L :: as) H rm hm bxs boxes given :=
  ⟨h.hrm, h.hhm, paired_map (fun _ _ _ x => x.more n) h.rooms, h.nd, fun a ha => List.mem_cons_of_mem _ (h.inA a ha), fun z => by
    rcases List.mem_cons.mp z with z | z
    · rw [← z, h.hrm] at n; cases n
    · exact h.out z⟩
theorem RmAt.sub {as bs : List Addr} {H : Hp} {rm hm : Addr} {bxs : List Addr} {boxes : List BoxS} {given : List (Option Nat)} (m : ∀ a ∈ bs, a ∈ as) (i : ∀ a ∈ hm :: bxs, a ∈ bs) (h : RmAt as H rm hm bxs boxes given) : RmAt bs H rm hm bxs boxes given :=
  ⟨h.hrm, h.hhm, paired_map (fun _ _ _ x => x.sub m) h.rooms, h.nd, i, fun z => h.out (m _ z)⟩
theorem RmAt.mut {as cs : List Addr} {H H' : Hp} {rm hm : Addr} {bxs : List Addr} {boxes : List BoxS} {given : List (Option Nat)} (m : ∀ c ∈ cs, Mut as H c) (b : But cs H H') (n : ∀ a ∈ hm :: bxs, a ∉ cs) (h : RmAt as H rm hm bxs boxes given) : RmAt as H' rm hm bxs boxes given := by
  refine ⟨mut_lst m b h.out h.hrm, b _ _ (n _ (by simp)) h.hhm, paired_map (fun bx S hx hS => ?_) h.rooms, h.nd, h.inA, h.out⟩
  obtain ⟨l1, l3, ys, h1, h2, h3, h4, h5, h6, h7, h8, h9, h10⟩ := hS
  exact ⟨l1, l3, ys, b _ _ (n _ (List.mem_cons_of_mem _ hx)) h1, mut_lst m b h9 h2, mut_lst m b h10 h3, h4, h5, h6, h7, h8, h9, h10⟩
section
variable {P : Program} {w : World} {K : PySem.W.Frag} {mg : Str → Option Value} {base : Heap}
def sp_law_empty (K : PySem.W.Frag) : Sp := fun vs H Q _ => ∃ (sz : Addr) (l : List Int), vs = [.ref sz] ∧ SqT K H sz (l.map V.int) ∧ l.length ≤ 12 ∧
  ∀ H' st rm hm bxs, Same H H' → H' st = some (.lst [.ref rm, .ref hm]) → H st = none → H rm = none → (∀ a ∈ hm :: bxs, H a = none) → bxs.length = l.length → st ≠ rm → st ∉ hm :: bxs → (∀ as, (∀ a ∈ as, H a ≠ none) → RmAt (hm :: bxs ++ as) H' rm hm bxs (List.replicate l.length S0) []) → Q (.ref st) H'
end
end K67

namespace K67
open PySem PySem.Spec PyProof.Rows L2 My StX
section
variable {P : Program} {w : World} {K : PySem.W.Frag} {mg : Str → Option Value} {base : Heap}
def sp_law_made (K : PySem.W.Frag) : Sp := fun vs H Q _ => ∃ (x pl ca : Addr) (as : List Addr) (W : WallS) (n : Nat) (c : Call), vs = [.ref x, .ref ca] ∧ WallAt K as H x pl W ∧ (∀ a ∈ as, H a ≠ none) ∧ WSm W n ∧ GivOk W ∧ SqT K H ca c.vs ∧ CallOk W c ∧
  ∀ (H' : Hp) (v : V), But [x, pl] H H' → WallAt K as H' x pl (callW W c).1 → DueAt as H' v (callW W c).2 → Q v H'
set_option maxHeartbeats 2000000 in
theorem ok_law_made (T : Txt w K mg) {fd : FuncData} (F : FunD K d_law_made.name d_law_made.qual d_law_made.params d_law_made.body d_law_made.scope (d_law_made.dvs K) (d_law_made.kws K) (He.fAd K d_law_made.at_) fd) : FnOk P w K mg base C8.CX0 7 (He.fAd K d_law_made.at_) fd ["wall", "call"] (sp_law_made K) := by
  have c_Wall_day := c_Wall_day (P := P) (w := w) (base := base) T
  have c_Wall_power := c_Wall_power (P := P) (w := w) (base := base) T
  have c_Wall_pass_by := c_Wall_pass_by (P := P) (w := w) (base := base) T
  have c_Wall_code := c_Wall_code (P := P) (w := w) (base := base) T
  have c_Wall_bring := c_Wall_bring (P := P) (w := w) (base := base) T
  refine F.ok sc_law_made (fun vs H Q E h => ?_) (fun cdv A outer s H vs Q E hr h => ?_)
  · obtain ⟨x, pl, ca, as, W, n, c, rfl, _⟩ := h
    rfl
  · have hu := L2.hu_of hr
    obtain ⟨x, pl, ca, as, W, n, c, rfl, hW, live, sm, gok, hca, hok, q⟩ := h
    refine ⟨_, (PSs.nox ((pss_cons (ps_if (pt_cmpR op_eq (pe_ix (My.ix_tupK (K := K) rfl) (pv 1) pe_int (fun _ _ => rfl)) pe_str (nomark _))
  (pss_one (ps_ret (C8.pe_mt c_Wall_bring hr (by decide) (pv 0) (pa_cons (pe_ix (My.ix_tupK (K := K) rfl) (pv 1) pe_int (fun _ _ => rfl)) (pa_cons (pe_ix (My.ix_tupK (K := K) rfl) (pv 1) pe_int (fun _ _ => rfl)) (pa_cons (pe_ix (My.ix_tupK (K := K) rfl) (pv 1) pe_int (fun _ _ => rfl)) pa_nil))))))
  pss_nil)
  (pss_cons (ps_if (pt_cmpR op_eq (pe_ix (My.ix_tupK (K := K) rfl) (pv 1) pe_int (fun _ _ => rfl)) pe_str (nomark _))
  (pss_one (ps_ret (C8.pe_mt c_Wall_code hr (by decide) (pv 0) (pa_cons (pe_ix (My.ix_tupK (K := K) rfl) (pv 1) pe_int (fun _ _ => rfl)) (pa_cons (pe_ix (My.ix_tupK (K := K) rfl) (pv 1) pe_int (fun _ _ => rfl)) (pa_cons (pe_ix (My.ix_tupK (K := K) rfl) (pv 1) pe_int (fun _ _ => rfl)) pa_nil))))))
  pss_nil)
  (pss_cons (ps_if (pt_cmpR op_eq (pe_ix (My.ix_tupK (K := K) rfl) (pv 1) pe_int (fun _ _ => rfl)) pe_str (nomark _))
  (pss_one (ps_ret (C8.pe_mt c_Wall_pass_by hr (by decide) (pv 0) (pa_cons (pe_ix (My.ix_tupK (K := K) rfl) (pv 1) pe_int (fun _ _ => rfl)) pa_nil))))
  pss_nil)
  (pss_one (ps_ret (pe_ifExp (pt_cmpR op_eq (pe_ix (My.ix_tupK (K := K) rfl) (pv 1) pe_int (fun _ _ => rfl)) pe_str (nomark _)) (C8.pe_mt0 c_Wall_day hr (by decide) (pv 0)) (C8.pe_mt0 c_Wall_power hr (by decide) (pv 0)))))))))), ?_⟩
    obtain ⟨dx0, _, _, _, _, xs0, hx0, _, hsn, _⟩ := id hW
    obtain ⟨fs0, hsn⟩ := hsn
    have hg := hsn.good
    cases c with
    | bring size l s =>
      refine cq_yes rfl hca rfl rfl ?_
      refine ⟨_, rfl, x, dx0, _, rfl, hx0, rfl, _, rfl, ca, _, ((1 : Nat) : Int), _, rfl, rfl, hca, atI_nat rfl, _, rfl, ca, _, ((2 : Nat) : Int), _, rfl, rfl, hca, atI_nat rfl, _, rfl, ca, _, ((3 : Nat) : Int), _, rfl, rfl, hca, atI_nat rfl, ?_⟩
      exact ⟨x, pl, as, W, size, l, s, n, rfl, hW, live, sm, hok.1, hok.2, fun H' p lt b hW' np nlt ne hp hlt => q H' _ b hW' ⟨p, lt, rfl, hp, hlt, fun z => live lt z nlt⟩⟩
    | code p l s =>
      refine cq_no rfl hca rfl (by decide) ?_
      refine cq_yes rfl hca rfl rfl ?_
      refine ⟨_, rfl, x, dx0, _, rfl, hx0, rfl, _, rfl, ca, _, ((1 : Nat) : Int), _, rfl, rfl, hca, atI_nat rfl, _, rfl, ca, _, ((2 : Nat) : Int), _, rfl, rfl, hca, atI_nat rfl, _, rfl, ca, _, ((3 : Nat) : Int), _, rfl, rfl, hca, atI_nat rfl, ?_⟩
      exact ⟨x, pl, as, W, p, l, s, n, rfl, hW, live, sm, gok, hok.1, hok.2, fun H' r ll lg b hW' nr nll nlg nd hr hll hlg => q H' _ b hW' ⟨r, ll, lg, rfl, hr, ⟨hll, fun z => live ll z nll⟩, hlg, fun z => live lg z nlg⟩⟩
    | pass i =>
      refine cq_no rfl hca rfl (by decide) ?_
      refine cq_no rfl hca rfl (by decide) ?_
      refine cq_yes rfl hca rfl rfl ?_
      refine ⟨_, rfl, x, dx0, _, rfl, hx0, rfl, _, rfl, ca, _, ((1 : Nat) : Int), _, rfl, rfl, hca, atI_nat rfl, ?_⟩
      exact ⟨x, pl, as, W, i, n, rfl, hW, live, sm, hok, fun H' lg b hW' nlg hlg => q H' _ b hW' ⟨lg, rfl, hlg, fun z => live lg z nlg⟩⟩
    | day =>
      refine cq_no rfl hca rfl (by decide) ?_
      refine cq_no rfl hca rfl (by decide) ?_
      refine cq_no rfl hca rfl (by decide) ?_
      refine ⟨_, rfl, ca, _, ((0 : Nat) : Int), _, rfl, rfl, hca, atI_nat rfl, rfl, _, rfl, ?_⟩
      rw [str_eqT rfl]
      refine L2.iteT ?_
      refine ⟨_, rfl, x, dx0, _, rfl, hx0, rfl, ?_⟩
      exact ⟨x, pl, as, W, n, rfl, hW, live, sm, fun S _ => day_lets hg _ S, fun H' lg b hW' nlg hlg => q H' _ b hW' ⟨lg, rfl, hlg, fun z => live lg z nlg⟩⟩
    | power =>
      refine cq_no rfl hca rfl (by decide) ?_
      refine cq_no rfl hca rfl (by decide) ?_
      refine cq_no rfl hca rfl (by decide) ?_
      refine ⟨_, rfl, ca, _, ((0 : Nat) : Int), _, rfl, rfl, hca, atI_nat rfl, rfl, _, rfl, ?_⟩
      rw [str_eqF (by decide)]
      refine L2.iteF ?_
      refine ⟨_, rfl, x, dx0, _, rfl, hx0, rfl, ?_⟩
      exact ⟨x, pl, as, W, n, rfl, hW, live, sm, fun S _ => power_lets hg S, fun H' lg b hW' nlg hlg => q H' _ b hW' ⟨lg, rfl, hlg, fun z => live lg z nlg⟩⟩
theorem c_law_made (T : Txt w K mg) : C8.Cal P w K mg base 7 "_law_made" (sp_law_made K) [] := by
  obtain ⟨fd, F⟩ := T.f_law_made
  exact ⟨_, fd, _, _, ok_law_made T F, T.g_law_made, F.kp, F.bindsN (fun _ _ _ _ _ _ us hl => match us, hl with | [_, _], _ => rfl), .nil⟩
def sp_law_next (K : PySem.W.Frag) : Sp := fun vs H Q _ => ∃ (a : Addr) (n : Nat) (W : WallS), vs = [.ref a, .int (W.cur.boxes.length : Int), .int (W.cur.given.length : Int)] ∧ SpringAt H a n ∧ n ≤ 50000 ∧ 0 < W.cur.boxes.length ∧ W.cur.boxes.length ≤ 12 ∧ W.cur.given.length ≤ 90000 ∧
  ∀ H' ca c, But [a] H H' → SpringAt H' a (n + 6) → SqT K H' ca (Call.vs c) → CallOk W c → Q (.ref ca) H'
set_option maxHeartbeats 2000000 in
theorem ok_law_next (T : Txt w K mg) {fd : FuncData} (F : FunD K d_law_next.name d_law_next.qual d_law_next.params d_law_next.body d_law_next.scope (d_law_next.dvs K) (d_law_next.kws K) (He.fAd K d_law_next.at_) fd) : FnOk P w K mg base C8.CX0 2 (He.fAd K d_law_next.at_) fd ["well", "many", "brought"] (sp_law_next K) := by
  have c_law_draw := c_law_draw (P := P) (w := w) (base := base) T
  refine F.ok sc_law_next (fun vs H Q E h => ?_) (fun cdv A outer s H vs Q E hr h => ?_)
  · obtain ⟨a, n, W, rfl, _⟩ := h
    rfl
  · have hu := L2.hu_of hr
    obtain ⟨a, n, W, rfl, hs, hn, h0, h1, h2, q⟩ := h
    refine ⟨_, (PSs.nox ((pss_cons (ps_par3 (i := 3) (j := 4) (l := 5) (by rfl) sc_law_next.nd rfl rfl rfl (by decide) (by decide) (by decide) rfl rfl rfl (pa_cons (C8.pe_c c_law_draw hr (by decide) rfl (pa_cons (pv 0) (pa_cons pe_int pa_nil))) (pa_cons (pe_cmpR op_gt (C8.pe_c c_law_draw hr (by decide) rfl (pa_cons (pv 0) (pa_cons pe_int pa_nil))) pe_int (nomark _)) (pa_cons (pe_cmpR op_gt (C8.pe_c c_law_draw hr (by decide) rfl (pa_cons (pv 0) (pa_cons pe_int pa_nil))) pe_int (nomark _)) pa_nil))) (by rfl))
  (pss_cons (ps_if (PW.pt (pw_or (pt_cmpR op_lt (pv 3) pe_int (nomark _)) (pw_or1 (PW.pt (pw_and (pt_cmpR op_lt (pv 3) pe_int (nomark _)) (pw_and1 (pt_cmpR op_eq (pv 2) pe_int (nomark _))))))))
  (pss_one (ps_ret (pe_tup (pa_cons pe_str (pa_cons (pe_ix (My.ix_listK (K := K) rfl) (pe_lst (pa_cons pe_int (pa_cons pe_int (pa_cons pe_int (pa_cons (pe_op op_add pe_int (C8.pe_c c_law_draw hr (by decide) rfl (pa_cons (pv 0) (pa_cons pe_int pa_nil)))) pa_nil))))) (C8.pe_c c_law_draw hr (by decide) rfl (pa_cons (pv 0) (pa_cons pe_int pa_nil))) (fun _ _ => rfl)) (pa_cons (pv 4) (pa_cons (pv 5) pa_nil)))))))
  pss_nil)
  (pss_cons (ps_if (pt_cmpR op_lt (pv 3) pe_int (nomark _))
  (pss_cons (ps_set (i := 6) sc_law_next.nd rfl (by first | exact Or.inl rfl | exact Or.inr rfl) (pe_ix (My.ix_listK (K := K) rfl) (pe_lst (pa_cons (pe_op op_add pe_int (C8.pe_c c_law_draw hr (by decide) rfl (pa_cons (pv 0) (pa_cons (pv 2) pa_nil)))) (pa_cons (pe_op op_sub (pv 2) (C8.pe_c c_law_draw hr (by decide) rfl (pa_cons (pv 0) (pa_cons (pe_callB (call_min2 rfl) (by rfl) T.min (by decide +kernel) (pa_cons pe_int (pa_cons (pv 2) pa_nil))) pa_nil)))) pa_nil))) (C8.pe_c c_law_draw hr (by decide) rfl (pa_cons (pv 0) (pa_cons pe_int pa_nil))) (fun _ _ => rfl)))
  (pss_one (ps_ret (pe_tup (pa_cons pe_str (pa_cons (pv 6) (pa_cons (pv 4) (pa_cons (pv 5) pa_nil))))))))
  pss_nil)
  (pss_cons (ps_if (pt_cmpR op_eq (pv 3) pe_int (nomark _))
  (pss_one (ps_ret (pe_tup (pa_cons pe_str (pa_cons (C8.pe_c c_law_draw hr (by decide) rfl (pa_cons (pv 0) (pa_cons (pv 1) pa_nil))) pa_nil)))))
  pss_nil)
  (pss_one (ps_ret (pe_ix (My.ix_listK (K := K) rfl) (pe_lst (pa_cons (pe_tup (pa_cons pe_str pa_nil)) (pa_cons (pe_tup (pa_cons pe_str pa_nil)) pa_nil))) (pe_op op_sub (pv 3) pe_int) (fun _ _ => rfl)))))))))), ?_⟩
    have hl := h1
    refine ⟨_, rfl, a, n, 10, rfl, hs, lt100 _ (by omega), by decide, by decide, fun H1 way b1 s1 w0 w1 => ?_⟩
    refine ⟨_, rfl, a, n + 1, 5, rfl, s1, lt100 _ (by omega), by decide, by decide, fun H2 k b2 s2 k0 k1 => ⟨_, _, rfl, rfl, ?_⟩⟩
    refine ⟨_, rfl, a, n + 2, 4, rfl, s2, lt100 _ (by omega), by decide, by decide, fun H3 j b3 s3 j0 j1 => ⟨_, _, rfl, rfl, _, _, _, rfl, ?_⟩⟩
    have b03 := (b1.trans b2).trans b3
    have bring : tRet
                  (tTup
                    (tCons (tC (V.str "bring"))
                      (tCons
                        (tOp (rIxL K)
                          (tLst
                            (tCons (tC (V.int 1))
                              (tCons (tC (V.int 1))
                                (tCons (tC (V.int 2))
                                  (tCons
                                    (tOp (rI0 fun i j => V.int (i + j)) (tC (V.int 1))
                                      (tCall (sp_law_draw K) [] C8.E0 (tCons (tVar 0) (tCons (tC (V.int 9)) tNil))))
                                    tNil)))))
                          (tCall (sp_law_draw K) [] C8.E0 (tCons (tVar 0) (tCons (tC (V.int 4)) tNil))))
                        (tCons (tVar 4) (tCons (tVar 5) tNil))))) { nx := fun x H' => Q V.non H', rt := Q } [some (.ref a), some (.int (W.cur.boxes.length : Int)), some (.int (W.cur.given.length : Int)), some (.int way), some (.bl (decide (0 < k))), some (.bl (decide (0 < j))), none] H3 := by
      refine ⟨_, rfl, a, n + 3, 9, rfl, s3, lt100 _ (by omega), by decide, by decide, fun H4 m b4 s4 m0 m1 => ⟨_, _, rfl, rfl, by show 4 ≤ sizeLine; decide, fun b hb => ?_⟩⟩
      have yb := same_new (o := .lst [.int 1, .int 1, .int 2, .int (1 + m)]) hb
      have nab : b ≠ a := (s4.live hb).symm
      refine ⟨_, rfl, a, n + 4, 4, rfl, s4.same yb, lt100 _ (by omega), by decide, by decide, fun H5 i b5 s5 i0 i1 => ?_⟩
      obtain ⟨e, he, rfl⟩ : ∃ e : Nat, e < 4 ∧ i = (e : Int) := ⟨i.toNat, by omega, by omega⟩
      have hb5 := b5 _ _ (by simpa using nab) (upd_same (H := H4) (a := b) (o := .lst [.int 1, .int 1, .int 2, .int (1 + m)]))
      have key : ∃ d : Int, ([V.int 1, .int 1, .int 2, .int (1 + m)] : List V)[e]? = some (.int d) ∧ 1 ≤ d ∧ d ≤ 9 := by
        match e, he with
        | 0, _ => exact ⟨1, rfl, by decide, by decide⟩
        | 1, _ => exact ⟨1, rfl, by decide, by decide⟩
        | 2, _ => exact ⟨2, rfl, by decide, by decide⟩
        | 3, _ => exact ⟨1 + m, rfl, by omega, by omega⟩
      obtain ⟨d, hd, d1, d2⟩ := key
      refine ⟨b, _, _, _, rfl, rfl, SqL.of hb5, atI_nat hd, _, rfl, _, rfl, by show 4 ≤ sizeLine; decide, fun t ht => ?_⟩
      have yt := same_new (o := .tup [.str "bring", .int d, .bl (decide (0 < k)), .bl (decide (0 < j))]) ht
      exact q _ t (.bring d (decide (0 < k)) (decide (0 < j))) ((((b03.trans b4).trans (But.of yb)).trans b5).trans (But.of yt)) ((s5.same yt).mono (by omega)) (SqT.of upd_same) ⟨d1, d2⟩
    refine ⟨_, rfl, _, _, rfl, rfl, decide (way < 4), rfl, ?_⟩
    by_cases c4 : way < 4
    · rw [decide_eq_true c4]
      exact L2.iteT bring
    rw [decide_eq_false c4]
    refine L2.iteF ?_
    refine ⟨_, rfl, _, _, rfl, rfl, decide (way < 7), rfl, ?_⟩
    have tail7 : ∀ (c7 : ¬ way < 7), tSeq
                  (tIfS (tTest (tOp rEq (tVar 3) (tC (V.int 7))))
                    (tRet
                      (tTup
                        (tCons (tC (V.str "pass"))
                          (tCons (tCall (sp_law_draw K) [] C8.E0 (tCons (tVar 0) (tCons (tVar 1) tNil))) tNil))))
                    tNext)
                  (tRet
                    (tOp (rIxL K)
                      (tLst
                        (tCons (tTup (tCons (tC (V.str "day")) tNil))
                          (tCons (tTup (tCons (tC (V.str "power")) tNil)) tNil)))
                      (tOp (rI0 fun i j => V.int (i - j)) (tVar 3) (tC (V.int 8))))) { nx := fun x H' => Q V.non H', rt := Q } [some (.ref a), some (.int (W.cur.boxes.length : Int)), some (.int (W.cur.given.length : Int)), some (.int way), some (.bl (decide (0 < k))), some (.bl (decide (0 < j))), none] H3 := by
      intro c7
      refine ⟨_, rfl, rfl, _, rfl, L2.ite2 (fun c => ?_) (fun c => ?_)⟩
      · refine ⟨_, rfl, _, rfl, a, n + 3, _, rfl, s3, lt100 _ (by omega), by omega, by omega, fun H4 m b4 s4 m0 m1 => ?_⟩
        obtain ⟨e, rfl⟩ : ∃ e : Nat, m = (e : Int) := ⟨m.toNat, by omega⟩
        refine ⟨by show 2 ≤ sizeLine; decide, fun t ht => ?_⟩
        have yt := same_new (o := .tup [.str "pass", .int (e : Int)]) ht
        exact q _ t (.pass e) ((b03.trans b4).trans (But.of yt)) ((s4.same yt).mono (by omega)) (SqT.of upd_same) (by show e < _; omega)
      · have ne : way ≠ 7 := fun z => by rw [z] at c; exact absurd c (by decide)
        refine ⟨by show 1 ≤ sizeLine; decide, fun t ht => ⟨by show 1 ≤ sizeLine; decide, fun u hu => ⟨by show 2 ≤ sizeLine; decide, fun b hb => ?_⟩⟩⟩
        have yt := same_new (o := .tup [.str "day"]) ht
        have yu := same_new (o := .tup [.str "power"]) hu
        have yb := same_new (o := .lst [V.ref t, .ref u]) hb
        have yy := (yt.trans yu).trans yb
        obtain ⟨e, he, ew⟩ : ∃ e : Nat, e < 2 ∧ way - 8 = (e : Int) := ⟨(way - 8).toNat, by omega, by omega⟩
        have key : ∃ v c, ([V.ref t, .ref u] : List V)[e]? = some (.ref v) ∧ SqT K (upd (upd (upd H3 t (.tup [.str "day"])) u (.tup [.str "power"])) b (.lst [V.ref t, .ref u])) v (Call.vs c) ∧ CallOk W c := by
          match e, he with
          | 0, _ => exact ⟨t, .day, rfl, same_tup (yu.trans yb) (SqT.of upd_same), trivial⟩
          | 1, _ => exact ⟨u, .power, rfl, same_tup yb (SqT.of upd_same), trivial⟩
        obtain ⟨v, cc, hv, hvs, hok⟩ := key
        refine ⟨_, rfl, _, _, rfl, rfl, b, _, _, _, rfl, rfl, SqL.of upd_same, (by rw [ew]; exact atI_nat hv), ?_⟩
        exact q _ v cc (b03.trans (But.of yy)) ((s3.same yy).mono (by omega)) hvs hok
    by_cases c7 : way < 7
    · rw [decide_eq_true c7]
      refine L2.iteT ?_
      refine ⟨_, rfl, rfl, _, rfl, L2.ite2 (fun c => bring) (fun c => ?_)⟩
      have pos : 0 < W.cur.given.length := by
        cases e : W.cur.given.length with
        | zero => rw [e] at c; exact absurd c (by decide)
        | succ _ => exact Nat.succ_pos _
      refine ⟨_, rfl, _, _, rfl, rfl, decide (way < 7), rfl, ?_⟩
      rw [decide_eq_true c7]
      refine L2.iteT ?_
      have big : (100000 : Int) < 2 ^ 200 := by decide
      have mn : 0 < (if (W.cur.given.length : Int) < 3 then (W.cur.given.length : Int) else 3) ∧ (if (W.cur.given.length : Int) < 3 then (W.cur.given.length : Int) else 3) ≤ (W.cur.given.length : Int) ∧ (if (W.cur.given.length : Int) < 3 then (W.cur.given.length : Int) else 3) ≤ 3 := by split <;> omega
      obtain ⟨mn0, mn1, mn2⟩ := mn
      refine ⟨_, rfl, _, rfl, a, n + 3, _, rfl, s3, lt100 _ (by omega), by omega, by omega, fun H4 m b4 s4 m0 m1 => ⟨_, _, rfl, rfl, ?_⟩⟩
      refine ⟨_, rfl, _, rfl, _, rfl, _, _, rfl, a, n + 4, _, rfl, s4, lt100 _ (by omega), mn0, by omega, fun H5 m2 b5 s5 m20 m21 => ⟨_, _, rfl, rfl, by show 2 ≤ sizeLine; decide, fun b hb => ?_⟩⟩
      have yb := same_new (o := .lst [.int (1 + m), .int ((W.cur.given.length : Int) - m2)]) hb
      have nab : b ≠ a := (s5.live hb).symm
      refine ⟨_, rfl, a, n + 5, 2, rfl, s5.same yb, lt100 _ (by omega), by decide, by decide, fun H6 i b6 s6 i0 i1 => ?_⟩
      obtain ⟨e, he, rfl⟩ : ∃ e : Nat, e < 2 ∧ i = (e : Int) := ⟨i.toNat, by omega, by omega⟩
      have hb6 := b6 _ _ (by simpa using nab) (upd_same (H := H5) (a := b) (o := .lst [.int (1 + m), .int ((W.cur.given.length : Int) - m2)]))
      have key : ∃ d : Int, ([V.int (1 + m), .int ((W.cur.given.length : Int) - m2)] : List V)[e]? = some (.int d) ∧ 1 ≤ d ∧ d ≤ (W.cur.given.length : Int) := by
        match e, he with
        | 0, _ => exact ⟨1 + m, rfl, by omega, by omega⟩
        | 1, _ => exact ⟨(W.cur.given.length : Int) - m2, rfl, by omega, by omega⟩
      obtain ⟨d, hd, d1, d2⟩ := key
      refine ⟨b, _, _, _, rfl, rfl, SqL.of hb6, atI_nat hd, ?_⟩
      refine ⟨_, rfl, _, rfl, _, rfl, by show 4 ≤ sizeLine; decide, fun t ht => ?_⟩
      have yt := same_new (o := .tup [.str "code", .int d, .bl (decide (0 < k)), .bl (decide (0 < j))]) ht
      exact q _ t (.code d (decide (0 < k)) (decide (0 < j))) ((((((b03.trans b4).trans b5).trans (But.of yb)).trans b6)).trans (But.of yt)) ((s6.same yt).mono (by omega)) (SqT.of upd_same) ⟨d1, d2⟩
    · rw [decide_eq_false c7]
      refine L2.iteF ?_
      refine ⟨_, rfl, _, _, rfl, rfl, decide (way < 7), rfl, ?_⟩
      rw [decide_eq_false c7]
      exact L2.iteF (tail7 c7)
theorem c_law_next (T : Txt w K mg) : C8.Cal P w K mg base 2 "_law_next" (sp_law_next K) [] := by
  obtain ⟨fd, F⟩ := T.f_law_next
  exact ⟨_, fd, _, _, ok_law_next T F, T.g_law_next, F.kp, F.bindsN (fun _ _ _ _ _ _ us hl => match us, hl with | [_, _, _], _ => rfl), .nil⟩
end
end K67

namespace K67
open PySem PySem.Spec PyProof.Rows L2 My StX
def oD : Option Int → PyData
  | some i => .int i
  | none => .none
def stdD (S : BoxS) (ys : List Int) : PyData := .tuple [.bool S.ajar, .list (S.inside.map PyData.int), .str S.tf, .list (ys.map PyData.int), oD S.age]
theorem dp_oV {K : PySem.W.Frag} {H : Hp} (o : Option Int) : Dp K H (oV o) (oD o) := by
  cases o with
  | none => exact .non
  | some i => exact .int i
theorem dp_std {K : PySem.W.Frag} {H : Hp} {u l1 l2 : Addr} {S : BoxS} {ys : List Int} (h : H u = some (.tup [.bl S.ajar, .ref l1, .str S.tf, .ref l2, oV S.age])) (h1 : H l1 = some (.lst (S.inside.map V.int))) (h2 : H l2 = some (.lst (ys.map V.int))) : Dp K H (.ref u) (stdD S ys) :=
  .tup (SqT.of h) (.cons (.bl _) (.cons (.lst (SqL.of h1) (dp_flatInts K H _)) (.cons (.str _) (.cons (.lst (SqL.of h2) (dp_flatInts K H _)) (.cons (dp_oV _) .nil)))))
theorem dp_flatBls (K : PySem.W.Frag) (H : Hp) {α : Type} (f : α → Bool) : ∀ l : List α, DpAll K H (l.map fun x => V.bl (f x)) (l.map fun x => PyData.bool (f x))
  | [] => .nil
  | _ :: l => .cons (.bl _) (dp_flatBls K H f l)
theorem sz_bls {n : Nat} {α : Type} {f : α → Bool} {l : List α} (h : l.length ≤ 100000) : Sized (n + 2) (.list (l.map fun x => PyData.bool (f x))) := ⟨by rw [List.length_map]; exact h, fun e he => by
  obtain ⟨z, _, rfl⟩ := List.mem_map.mp he
  exact trivial⟩
theorem sz_ints {n : Nat} {l : List Int} (h : l.length ≤ 100000) : Sized (n + 2) (.list (l.map PyData.int)) := ⟨by rw [List.length_map]; exact h, fun e he => by
  obtain ⟨z, _, rfl⟩ := List.mem_map.mp he
  exact trivial⟩
theorem sz_oD {n : Nat} (o : Option Int) : Sized (n + 1) (oD o) := by cases o <;> exact trivial
theorem sz_std {S : BoxS} {ys : List Int} (h1 : S.inside.length ≤ 100000) (h2 : ys.length ≤ 100000) : Sized 5 (stdD S ys) := ⟨by show 5 ≤ 100000; decide, fun e he => by
  simp only [List.mem_cons, List.not_mem_nil, or_false] at he
  rcases he with rfl | rfl | rfl | rfl | rfl
  · exact trivial
  · exact sz_ints h1
  · exact trivial
  · exact sz_ints h2
  · exact sz_oD _⟩
def lyL (W : WallS) (i : Nat) : List Int := (W.cur.boxes.take i).flatMap fun S => S.inside
theorem lyL_succ {W : WallS} {i : Nat} {S : BoxS} (h : W.cur.boxes[i]? = some S) : lyL W (i + 1) = lyL W i ++ S.inside := by
  unfold lyL
  rw [take_more h, List.flatMap_append]
  simp
theorem lyL_all {W : WallS} : ((lyL W W.cur.boxes.length).length : Int) = lyingW W := by
  unfold lyL lyingW
  rw [List.take_length]
  generalize W.cur.boxes = l
  induction l with
  | nil => rfl
  | cons S l ih =>
    rw [List.flatMap_cons, List.length_append, List.map_cons, List.sum_cons, ← ih]
    omega
theorem lyL_in {W : WallS} {p : Int} : p ∈ lyL W W.cur.boxes.length ↔ ∃ S ∈ W.cur.boxes, p ∈ S.inside := by
  unfold lyL
  rw [List.take_length]
  exact List.mem_flatMap
/-- a parcel in a box was brought -/
def InsOk (W : WallS) : Prop := ∀ S ∈ W.cur.boxes, ∀ p ∈ S.inside, 1 ≤ p ∧ p ≤ (W.cur.given.length : Int)
theorem inW_eq {W : WallS} (h : InsOk W) (p : Int) : inW W p = decide (p ∈ lyL W W.cur.boxes.length) := by
  unfold inW
  by_cases c : p ∈ lyL W W.cur.boxes.length
  · rw [decide_eq_true c]
    obtain ⟨S, hS, hp⟩ := lyL_in.mp c
    obtain ⟨h1, h2⟩ := h S hS p hp
    rw [decide_eq_true h1, decide_eq_true h2, List.any_eq_true.mpr ⟨S, hS, decide_eq_true hp⟩]
    rfl
  · rw [decide_eq_false c]
    have e : (W.cur.boxes.any fun S => decide (p ∈ S.inside)) = false := by
      rw [Bool.eq_false_iff]
      intro z
      obtain ⟨S, hS, hp⟩ := List.any_eq_true.mp z
      exact c (lyL_in.mpr ⟨S, hS, of_decide_eq_true hp⟩)
    rw [e, Bool.and_false]
section
variable {P : Program} {w : World} {K : PySem.W.Frag} {mg : Str → Option Value} {base : Heap}
def sp_law_shows (K : PySem.W.Frag) : Sp := fun vs H Q _ => ∃ (a x pl st rm hm : Addr) (as bxs : List Addr) (W : WallS) (n m : Nat), vs = [.ref a, .ref x, .ref st] ∧ SpringAt H a n ∧ n ≤ 50000 ∧ WallAt K as H x pl W ∧ (∀ a ∈ as, H a ≠ none) ∧ WSm W m ∧ m ≤ 5000 ∧ InsOk W ∧
  H st = some (.lst [.ref rm, .ref hm]) ∧ st ∉ as ∧ RmAt as H rm hm bxs W.cur.boxes W.cur.given ∧ a ∈ as ∧ a ∉ pl :: hm :: bxs ∧ ∀ H', But [a] H H' → SpringAt H' a (n + 3) → Q (.bl true) H'
end
end K67

namespace K67
open PySem PySem.Spec PyProof.Rows L2 My StX
/-! ### what holds behind a call -/
theorem act_in (x : BoxS × ToldS) (a : Str) : (act x a).1.inside = x.1.inside := by
  unfold K67.act
  split
  · unfold sendCode
    split
    · split <;> rfl
    · rfl
  · split
    · rfl
    · split
      · rfl
      · split <;> rfl
theorem fold_in : ∀ (r : RuleL) (x : BoxS × ToldS), (r.foldl act x).1.inside = x.1.inside
  | [], x => rfl
  | a :: r, x => (fold_in r (act x a)).trans (act_in x a)
theorem carry_in (r : RuleL) (m : Str) (x : BoxS × ToldS) : (carry r m x).1.inside = x.1.inside := fold_in r _
theorem go_in (s : Bool) (m1 m2 : Str) (r1 r2 : RuleL) (x : BoxS × ToldS) : (goAway s m1 m2 r1 r2 x).1.inside = x.1.inside := by
  unfold goAway
  split
  · split
    · exact carry_in _ _ _
    · exact carry_in _ _ _
  · rfl
theorem bring_in {rs : List RuleL} {q : Int} {l s : Bool} {S : BoxS} {p : Int} (h : p ∈ (bringF rs q l s S).1.inside) : p ∈ S.inside ∨ p = q := by
  unfold bringF at h
  split at h
  · rw [go_in] at h
    unfold layIn at h
    split at h
    · have h2 : p ∈ (carry (at_ rs 0) "given" ({ S with ajar := true, age := some 0, last := some q }, { T0 with opened := true })).1.inside ++ [q] := h
      rw [carry_in] at h2
      rcases List.mem_append.mp h2 with h2 | h2
      · exact .inl h2
      · exact .inr (List.mem_singleton.mp h2)
    · rw [carry_in] at h
      exact .inl h
  · exact .inl h
theorem code_in {rs : List RuleL} {q : Int} {t s : Bool} {S : BoxS} {p : Int} (h : p ∈ (codeF rs q t s S).1.inside) : p ∈ S.inside := by
  unfold codeF at h
  split at h
  · rw [go_in] at h
    have h2 : p ∈ (takeIf q t (carry (at_ rs 3) "opened" ({ S with ajar := true }, { T0 with opened := true }))).1.inside := by
      unfold addW at h
      split at h <;> exact h
    unfold takeIf at h2
    split at h2
    · cases h2
    · rw [carry_in] at h2
      exact h2
  · unfold addW at h
    split at h <;> exact h
theorem pass_in {S : BoxS} {p : Int} (h : p ∈ (passBy S).1.inside) : p ∈ S.inside := by
  unfold passBy at h
  split at h
  · cases h
  · exact h
theorem day_in {d : Int} {rs : List RuleL} {S : BoxS} {p : Int} (h : p ∈ (dayF d rs S).1.inside) : p ∈ S.inside := by
  unfold dayF at h
  split at h
  · exact h
  · split at h
    · rw [carry_in] at h
      exact h
    · exact h
theorem power_in {rs : List RuleL} {S : BoxS} {p : Int} (h : p ∈ (powerF rs S).1.inside) : p ∈ S.inside := by
  unfold powerF at h
  rw [carry_in] at h
  exact h
/-- each box behind a call: as before, or behind a deed -/
def Came (rs : List RuleL) (d : Int) (S S2 : BoxS) : Prop := S2 = S ∨ ∃ k x, S2 = (doF rs d k x S).1
structure Step (W W2 : WallS) : Prop where
  sz : W2.sizes = W.sizes
  d : W2.cur.d = W.cur.d
  rs : W2.cur.rs = W.cur.rs
  len : W2.cur.boxes.length = W.cur.boxes.length
  giv : ∃ l, l.length ≤ 1 ∧ W2.cur.given = W.cur.given ++ l ∧ ∀ i, some i ∈ l → i < W.cur.boxes.length
  pas : W2.past.length = W.past.length + 1
  box : ∀ S2 ∈ W2.cur.boxes, ∃ S ∈ W.cur.boxes, Came W.cur.rs W.cur.d S S2 ∧ ∀ p ∈ S2.inside, p ∈ S.inside ∨ (p = (W.cur.given.length : Int) + 1 ∧ p ≤ (W2.cur.given.length : Int))
theorem boxOf_mem {W : WallS} {i : Nat} (h : i < W.cur.boxes.length) : boxOf W i ∈ W.cur.boxes := List.mem_of_getElem? (boxOf_get h)
theorem call_step {W : WallS} {c : Call} (gok : GivOk W) (ok : CallOk W c) : Step W (callW W c).1 := by
  have lenP : ∀ {V W : WallS}, V.past = W.past ++ [W.cur] → V.past.length = W.past.length + 1 := fun e => by rw [e, List.length_append]; rfl
  cases c with
  | bring size l s =>
    show Step W (bringW W size l s).1
    cases hp : placeF W.sizes W.cur.boxes size with
    | none =>
      have eb : (bringW W size l s).1 = giveW (remW W) none := by unfold bringW; rw [hp]
      rw [eb]
      exact ⟨rfl, rfl, rfl, rfl, ⟨[none], Nat.le_refl 1, rfl, fun i z => by simp at z⟩, lenP rfl, fun S2 h => ⟨S2, h, .inl rfl, fun p z => .inl z⟩⟩
    | some i =>
      obtain ⟨hi, _⟩ := placeF_lt hp
      have eb : (bringW W size l s).1 = setBox (giveW (remW W) (some i)) i (bringF W.cur.rs ((W.cur.given.length : Int) + 1) l s (boxOf W i)).1 := by unfold bringW; rw [hp]
      rw [eb]
      refine ⟨rfl, rfl, rfl, List.length_set .., ⟨[some i], Nat.le_refl 1, rfl, fun j z => ?_⟩, lenP rfl, fun S2 h => ?_⟩
      · have : j = i := by simpa using z
        rw [this]; exact hi
      · rcases List.mem_or_eq_of_mem_set h with h | h
        · exact ⟨S2, h, .inl rfl, fun p z => .inl z⟩
        · refine ⟨boxOf W i, boxOf_mem hi, .inr ⟨_, .bring l s, h⟩, fun p z => ?_⟩
          rw [h] at z
          rcases bring_in z with z | z
          · exact .inl z
          · refine .inr ⟨z, ?_⟩
            show p ≤ ((W.cur.given ++ [some i]).length : Int)
            rw [z, List.length_append]
            exact Int.le_refl _
  | code p t s =>
    show Step W (codeW W p t s).1
    cases hp : homeOf W p with
    | none =>
      have eb : (codeW W p t s).1 = remW W := by unfold codeW; rw [hp]
      rw [eb]
      exact ⟨rfl, rfl, rfl, rfl, ⟨[], Nat.zero_le _, (List.append_nil _).symm, fun i z => by cases z⟩, lenP rfl, fun S2 h => ⟨S2, h, .inl rfl, fun p z => .inl z⟩⟩
    | some i =>
      have eb : (codeW W p t s).1 = setBox (remW W) i (codeF W.cur.rs p t s (boxOf W i)).1 := by unfold codeW; rw [hp]
      rw [eb]
      have hi : i < W.cur.boxes.length := by
        refine gok i ?_
        unfold homeOf at hp
        cases e : W.cur.given[(p - 1).toNat]? with
        | none => rw [e] at hp; cases hp
        | some o => rw [e] at hp; have hp2 : o = some i := hp; rw [← hp2]; exact List.mem_of_getElem? e
      refine ⟨rfl, rfl, rfl, List.length_set .., ⟨[], Nat.zero_le _, (List.append_nil _).symm, fun i z => by cases z⟩, lenP rfl, fun S2 h => ?_⟩
      rcases List.mem_or_eq_of_mem_set h with h | h
      · exact ⟨S2, h, .inl rfl, fun p z => .inl z⟩
      · exact ⟨boxOf W i, boxOf_mem hi, .inr ⟨0, .code p t s, h⟩, fun q z => .inl (by rw [h] at z; exact code_in z)⟩
  | pass i =>
    refine ⟨rfl, rfl, rfl, List.length_set .., ⟨[], Nat.zero_le _, (List.append_nil _).symm, fun i z => by cases z⟩, lenP rfl, fun S2 h => ?_⟩
    rcases List.mem_or_eq_of_mem_set h with h | h
    · exact ⟨S2, h, .inl rfl, fun p z => .inl z⟩
    · exact ⟨boxOf W i, boxOf_mem ok, .inr ⟨0, .pass, h⟩, fun q z => .inl (by rw [h] at z; exact pass_in z)⟩
  | day =>
    refine ⟨rfl, rfl, rfl, List.length_map .., ⟨[], Nat.zero_le _, (List.append_nil _).symm, fun i z => by cases z⟩, lenP rfl, fun S2 h => ?_⟩
    obtain ⟨S, hS, rfl⟩ := List.mem_map.mp h
    exact ⟨S, hS, .inr ⟨0, .day, rfl⟩, fun q z => .inl (day_in z)⟩
  | power =>
    refine ⟨rfl, rfl, rfl, List.length_map .., ⟨[], Nat.zero_le _, (List.append_nil _).symm, fun i z => by cases z⟩, lenP rfl, fun S2 h => ?_⟩
    obtain ⟨S, hS, rfl⟩ := List.mem_map.mp h
    exact ⟨S, hS, .inr ⟨0, .power, rfl⟩, fun q z => .inl (power_in z)⟩
theorem Step.wsm {W W2 : WallS} {n : Nat} (st : Step W W2) (hg : GoodB W.cur.rs) (h : WSm W n) (hn : n + 16 ≤ 90000) : WSm W2 (n + 16) := by
  obtain ⟨l, hl, he, _⟩ := st.giv
  have e1 := h.giv
  have e2 := h.pas
  refine ⟨by rw [st.sz, st.len]; exact h.len, by rw [st.len]; exact h.b12, fun S2 h2 => ?_, by rw [he, List.length_append]; omega, by rw [st.pas]; omega, hn⟩
  obtain ⟨S, hS, hc, _⟩ := st.box S2 h2
  rcases hc with rfl | ⟨k, x, rfl⟩
  · exact (h.bd _ hS).mono (by omega)
  · exact ((h.bd _ hS).doF hg).self
theorem Step.gok {W W2 : WallS} (st : Step W W2) (h : GivOk W) : GivOk W2 := by
  obtain ⟨l, hl, he, hi⟩ := st.giv
  intro i z
  rw [st.len]
  rw [he] at z
  rcases List.mem_append.mp z with z | z
  · exact h i z
  · exact hi i z
theorem Step.iok {W W2 : WallS} (st : Step W W2) (h : InsOk W) : InsOk W2 := by
  obtain ⟨l, hl, he, _⟩ := st.giv
  intro S2 h2 p hp
  obtain ⟨S, hS, _, hc⟩ := st.box S2 h2
  have e : (W2.cur.given.length : Int) = (W.cur.given.length : Int) + (l.length : Int) := by rw [he, List.length_append]; omega
  rcases hc p hp with z | ⟨z1, z2⟩
  · obtain ⟨a, b⟩ := h S hS p z
    exact ⟨a, by omega⟩
  · exact ⟨by omega, z2⟩
end K67

namespace K67
open PySem PySem.Spec PyProof.Rows L2 My StX
/-! ### what is told: its data -/
def giD : Option Nat → PyData
  | none => .none
  | some i => .int (i : Int)
def dueD : DueS → PyData
  | .trip p i l => .tuple [.int p, giD i, .list (l.map PyData.int)]
  | .rep l o g => .tuple [.list (l.map PyData.int), .bool o, .list (g.map PyData.int)]
  | .lst l => .list (l.map PyData.int)
theorem dp_gi {K : PySem.W.Frag} {H : Hp} (o : Option Nat) : Dp K H (giV o) (giD o) := by
  cases o with
  | none => exact .non
  | some i => exact .int _
theorem TdL.dp {K : PySem.W.Frag} {as : List Addr} {H : Hp} {a : Addr} {l : List Int} (h : TdL as H a l) : Dp K H (.ref a) (.list (l.map PyData.int)) := .lst (SqL.of h.1) (dp_flatInts K H l)
theorem DueAt.dp {K : PySem.W.Frag} {as : List Addr} {H : Hp} {v : V} {d : DueS} (h : DueAt as H v d) : Dp K H v (dueD d) := by
  cases d with
  | trip p i l =>
    obtain ⟨t, a, rfl, h1, h2⟩ := h
    exact .tup (SqT.of h1) (.cons (.int _) (.cons (dp_gi _) (.cons h2.dp .nil)))
  | rep l o g =>
    obtain ⟨t, a, c, rfl, h1, h2, h3⟩ := h
    exact .tup (SqT.of h1) (.cons h2.dp (.cons (.bl _) (.cons h3.dp .nil)))
  | lst l =>
    obtain ⟨a, rfl, h2⟩ := h
    exact h2.dp
def DueOk : DueS → Prop
  | .trip _ _ l => l.length ≤ 100000
  | .rep l _ g => l.length ≤ 100000 ∧ g.length ≤ 100000
  | .lst l => l.length ≤ 100000
theorem sz_gi {n : Nat} (o : Option Nat) : Sized (n + 1) (giD o) := by cases o <;> exact trivial
theorem sz_due {d : DueS} (h : DueOk d) : Sized 5 (dueD d) := by
  cases d with
  | trip p i l =>
    refine ⟨by show 3 ≤ 100000; decide, fun e he => ?_⟩
    simp only [List.mem_cons, List.not_mem_nil, or_false] at he
    rcases he with rfl | rfl | rfl
    · exact trivial
    · exact sz_gi _
    · exact sz_ints h
  | rep l o g =>
    refine ⟨by show 3 ≤ 100000; decide, fun e he => ?_⟩
    simp only [List.mem_cons, List.not_mem_nil, or_false] at he
    rcases he with rfl | rfl | rfl
    · exact sz_ints h.1
    · exact trivial
    · exact sz_ints h.2
  | lst l => exact sz_ints h
theorem act_got (x : BoxS × ToldS) (a : Str) : (act x a).2.got = x.2.got := by
  unfold K67.act
  split
  · unfold sendCode
    split
    · split <;> rfl
    · rfl
  · split
    · rfl
    · split
      · rfl
      · split <;> rfl
theorem fold_got : ∀ (r : RuleL) (x : BoxS × ToldS), (r.foldl act x).2.got = x.2.got
  | [], x => rfl
  | a :: r, x => (fold_got r (act x a)).trans (act_got x a)
theorem carry_got (r : RuleL) (m : Str) (x : BoxS × ToldS) : (carry r m x).2.got = x.2.got := fold_got r _
theorem go_got (s : Bool) (m1 m2 : Str) (r1 r2 : RuleL) (x : BoxS × ToldS) : (goAway s m1 m2 r1 r2 x).2.got = x.2.got := by
  unfold goAway
  split
  · split
    · exact carry_got _ _ _
    · exact carry_got _ _ _
  · rfl
theorem code_got {rs : List RuleL} {q : Int} {t s : Bool} {S : BoxS} : (codeF rs q t s S).2.got.length ≤ S.inside.length := by
  have ad : ∀ (c : Bool) (wd : Str) (x : BoxS × ToldS), (addW c wd x).2.got = x.2.got := fun c wd x => by
    unfold addW
    split <;> rfl
  unfold codeF
  split
  · rw [go_got, ad]
    unfold takeIf
    split
    · show (carry (at_ rs 3) "opened" ({ S with ajar := true }, { T0 with opened := true })).1.inside.length ≤ _
      rw [carry_in]
      exact Nat.le_refl _
    · rw [carry_got]
      exact Nat.zero_le _
  · rw [ad]
    exact Nat.zero_le _
theorem pass_got {S : BoxS} : (passBy S).2.got.length ≤ S.inside.length := by
  unfold passBy
  split
  · exact Nat.le_refl _
  · exact Nat.zero_le _
theorem flat_le {α : Type} {f : α → List Int} {k : Nat} : ∀ {l : List α}, (∀ x ∈ l, (f x).length ≤ k) → (l.flatMap f).length ≤ k * l.length
  | [], _ => Nat.zero_le _
  | x :: l, h => by
    have h1 := h x (by simp)
    have h2 := flat_le (l := l) fun y hy => h y (List.mem_cons_of_mem _ hy)
    rw [List.flatMap_cons, List.length_append, List.length_cons, Nat.mul_add]
    omega
theorem call_due {W : WallS} {n : Nat} {c : Call} (hg : GoodB W.cur.rs) (sm : WSm W n) (gok : GivOk W) (ok : CallOk W c) : DueOk (callW W c).2 := by
  have h9 := sm.sm
  have h12 := sm.b12
  cases c with
  | bring size l s =>
    show (bringW W size l s).2.2.length ≤ 100000
    cases hp : placeF W.sizes W.cur.boxes size with
    | none =>
      have eb : (bringW W size l s).2.2 = [] := by unfold bringW; rw [hp]
      rw [eb]
      exact Nat.zero_le _
    | some i =>
      obtain ⟨hi, _⟩ := placeF_lt hp
      have eb : (bringW W size l s).2.2 = (bringF W.cur.rs ((W.cur.given.length : Int) + 1) l s (boxOf W i)).2.letters := by unfold bringW; rw [hp]
      rw [eb]
      have := ((sm.bd _ (boxOf_mem hi)).doF (d := 0) (k := (W.cur.given.length : Int) + 1) (x := .bring l s) hg).l
      exact Nat.le_trans this (by omega)
  | code p t s =>
    show (codeW W p t s).2.letters.length ≤ 100000 ∧ (codeW W p t s).2.got.length ≤ 100000
    cases hp : homeOf W p with
    | none =>
      have eb : (codeW W p t s).2 = T0 := by unfold codeW; rw [hp]
      rw [eb]
      exact ⟨Nat.zero_le _, Nat.zero_le _⟩
    | some i =>
      have hi : i < W.cur.boxes.length := by
        refine gok i ?_
        unfold homeOf at hp
        cases e : W.cur.given[(p - 1).toNat]? with
        | none => rw [e] at hp; cases hp
        | some o => rw [e] at hp; have hp2 : o = some i := hp; rw [← hp2]; exact List.mem_of_getElem? e
      have eb : (codeW W p t s).2 = (codeF W.cur.rs p t s (boxOf W i)).2 := by unfold codeW; rw [hp]
      rw [eb]
      have bd := sm.bd _ (boxOf_mem hi)
      have := (bd.doF (d := 0) (k := 0) (x := .code p t s) hg).l
      have hin : (boxOf W i).inside.length ≤ n := bd.i
      exact ⟨Nat.le_trans this (by omega), Nat.le_trans code_got (by omega)⟩
  | pass i =>
    have hin : (boxOf W i).inside.length ≤ n := (sm.bd _ (boxOf_mem ok)).i
    exact Nat.le_trans pass_got (by omega)
  | day =>
    refine Nat.le_trans (flat_le (k := 100) fun S _ => day_lets hg _ S) (by omega)
  | power =>
    refine Nat.le_trans (flat_le (k := 100) fun S _ => power_lets hg S) (by omega)
/-! ### the whole of it: two walls, the law's own walls, the springs -/
structure SideD where
  x : Addr
  pl : Addr
  sz : Addr
  st : Addr
  rm : Addr
  hm : Addr
  bxs : List Addr
def SideD.own (s : SideD) : List Addr := s.x :: s.pl :: s.hm :: s.bxs
structure NowAt {ι : Type} (K : PySem.W.Frag) (as spr : List Addr) (S : ι → SideD) (H : Hp) (W U : ι → WallS) (N : Nat) : Prop where
  wall : ∀ k, WallAt K as H (S k).x (S k).pl (W k)
  room : ∀ k, RmAt as H (S k).rm (S k).hm (S k).bxs (U k).cur.boxes (U k).cur.given
  hst : ∀ k, H (S k).st = some (.lst [.ref (S k).rm, .ref (S k).hm])
  nst : ∀ k, (S k).st ∉ as
  hsz : ∀ k, SqT K H (S k).sz ((W k).sizes.map V.int)
  live : ∀ a ∈ as, H a ≠ none
  sp : ∀ s ∈ spr, SpringAt H s N ∧ s ∈ as ∧ ∀ k, s ∉ (S k).own
  own : ∀ j k, j ≠ k → ∀ a ∈ (S j).own, a ∉ (S k).own
  nd : ∀ k, (S k).own.Nodup
section
variable {ι : Type} [DecidableEq ι] {K : PySem.W.Frag} {as spr : List Addr} {S : ι → SideD} {H H' : Hp} {W U : ι → WallS} {N N' : Nat}
theorem own_x (s : SideD) : s.x ∈ s.own := by simp [SideD.own]
theorem own_pl (s : SideD) : s.pl ∈ s.own := by simp [SideD.own]
theorem own_rm {s : SideD} {a : Addr} (h : a ∈ s.hm :: s.bxs) : a ∈ s.own := List.mem_cons_of_mem _ (List.mem_cons_of_mem _ h)
theorem live_but {cs : List Addr} (live : ∀ a ∈ as, H a ≠ none) (b : But cs H H') (lv : ∀ c ∈ cs, H' c ≠ none) : ∀ a ∈ as, H' a ≠ none := fun a ha e => by
  by_cases z : a ∈ cs
  · exact lv a z e
  · cases e0 : H a with
    | none => exact live a ha e0
    | some o => rw [b _ _ z e0] at e; cases e
theorem NowAt.chg {cs : List Addr} (h : NowAt K as spr S H W U N) (m : ∀ c ∈ cs, Mut as H c) (b : But cs H H') (n : ∀ k, ∀ a ∈ (S k).own, a ∉ cs) (sp : ∀ s ∈ spr, SpringAt H' s N') (lv : ∀ c ∈ cs, H' c ≠ none) : NowAt K as spr S H' W U N' :=
  ⟨fun k => (h.wall k).mut m b (n k _ (own_x _)) (n k _ (own_pl _)), fun k => (h.room k).mut m b fun a ha => n k a (own_rm ha), fun k => mut_lst m b (h.nst k) (h.hst k), h.nst, fun k => mut_tup m b (h.hsz k), live_but h.live b lv, fun s hs => ⟨sp s hs, (h.sp s hs).2⟩, h.own, h.nd⟩
theorem NowAt.same (h : NowAt K as spr S H W U N) (s : Same H H') : NowAt K as spr S H' W U N := h.chg (cs := []) mut_no (But.of s) (fun _ _ _ z => by cases z) (fun a ha => (h.sp a ha).1.same s) (fun c hc => by cases hc)
theorem SpringAt.mut {a : Addr} (h : SpringAt H a N) (i : a ∈ as) : ∀ c ∈ [a], Mut as H c := fun c hc => by
  obtain ⟨w0, w1, w2, e, _⟩ := h
  rw [List.mem_singleton.mp hc]
  exact .inl ⟨i, _, e⟩
theorem NowAt.draw {a : Addr} (h : NowAt K as spr S H W U N) (ha : a ∈ spr) (b : But [a] H H') (sa : SpringAt H' a N') (le : N ≤ N') : NowAt K as spr S H' W U N' := by
  obtain ⟨s0, i0, o0⟩ := h.sp a ha
  refine h.chg (s0.mut i0) b (fun k c hc z => o0 k (by rw [← List.mem_singleton.mp z]; exact hc)) (fun s hs => ?_) (fun c hc e => ?_)
  · by_cases z : s = a
    · rw [z]; exact sa
    · obtain ⟨w0, w1, w2, e, r⟩ := (h.sp s hs).1
      exact SpringAt.mono ⟨w0, w1, w2, b _ _ (by simpa using z) e, r⟩ le
  · obtain ⟨w0, w1, w2, e2, _⟩ := sa
    rw [List.mem_singleton.mp hc, e2] at e
    cases e
theorem NowAt.sprs {cs : List Addr} (h : NowAt K as spr S H W U N) (b : But cs H H') (n : ∀ c ∈ cs, ∃ k, c ∈ (S k).own) : ∀ s ∈ spr, SpringAt H' s N := fun s hs => by
  obtain ⟨⟨w0, w1, w2, e, r⟩, _, o⟩ := h.sp s hs
  refine ⟨w0, w1, w2, b _ _ (fun z => ?_) e, r⟩
  obtain ⟨k, hk⟩ := n s z
  exact o k hk
def setS (W : ι → WallS) (j : ι) (w : WallS) : ι → WallS := fun k => if k = j then w else W k
theorem setS_at (W : ι → WallS) (j : ι) (w : WallS) : setS W j w j = w := if_pos rfl
theorem setS_ne {W : ι → WallS} {j k : ι} {w : WallS} (h : k ≠ j) : setS W j w k = W k := if_neg h
theorem RmAt.muts {rm hm : Addr} {bxs : List Addr} {boxes : List BoxS} {given : List (Option Nat)} (h : RmAt as H rm hm bxs boxes given) : ∀ c ∈ hm :: bxs, Mut as H c := fun c hc => by
  refine .inl ⟨h.inA c hc, ?_⟩
  rcases List.mem_cons.mp hc with z | z
  · rw [z]; exact ⟨_, h.hhm⟩
  · obtain ⟨i, hi⟩ := List.mem_iff_getElem?.mp z
    obtain ⟨S, _, l1, l3, ys, hb, _⟩ := paired_at h.rooms hi
    exact ⟨_, hb⟩
theorem RmAt.here {rm hm : Addr} {bxs : List Addr} {boxes : List BoxS} {given : List (Option Nat)} (h : RmAt as H rm hm bxs boxes given) : ∀ c ∈ hm :: bxs, H c ≠ none := fun c hc e => by
  rcases h.muts c hc with ⟨_, l, e2⟩ | ⟨_, _, _, _, _, _, _, e2⟩ <;> (rw [e] at e2; cases e2)
theorem NowAt.call {j : ι} {w2 : WallS} (h : NowAt K as spr S H W U N) (b : But ((S j).hm :: (S j).bxs) H H') (r : RmAt as H' (S j).rm (S j).hm (S j).bxs w2.cur.boxes w2.cur.given) : NowAt K as spr S H' W (setS U j w2) N := by
  have m := (h.room j).muts
  have nd := h.nd j
  have nx : ∀ k, (S k).x ∉ (S j).hm :: (S j).bxs := fun k z => by
    by_cases e : k = j
    · rw [e] at z
      exact (List.nodup_cons.mp nd).1 (List.mem_cons_of_mem _ z)
    · exact h.own k j e _ (own_x _) (own_rm z)
  have np : ∀ k, (S k).pl ∉ (S j).hm :: (S j).bxs := fun k z => by
    by_cases e : k = j
    · rw [e] at z
      exact (List.nodup_cons.mp (List.nodup_cons.mp nd).2).1 z
    · exact h.own k j e _ (own_pl _) (own_rm z)
  refine ⟨fun k => (h.wall k).mut m b (nx k) (np k), fun k => ?_, fun k => mut_lst m b (h.nst k) (h.hst k), h.nst, fun k => mut_tup m b (h.hsz k), live_but h.live b r.here, fun s hs => ⟨h.sprs b (fun c hc => ⟨j, own_rm hc⟩) s hs, (h.sp s hs).2⟩, h.own, h.nd⟩
  by_cases e : k = j
  · rw [e, setS_at]; exact r
  · rw [setS_ne e]
    exact (h.room k).mut m b fun a ha z => h.own k j e a (own_rm ha) (own_rm z)
theorem WallAt.here {x pl : Addr} {w : WallS} (h : WallAt K as H x pl w) : ∀ c ∈ [x, pl], H c ≠ none := fun c hc e => by
  rcases h.muts c hc with ⟨_, l, e2⟩ | ⟨_, _, _, _, _, _, _, e2⟩ <;> (rw [e] at e2; cases e2)
theorem NowAt.made {j : ι} {w2 : WallS} (h : NowAt K as spr S H W U N) (b : But [(S j).x, (S j).pl] H H') (r : WallAt K as H' (S j).x (S j).pl w2) (ez : w2.sizes = (W j).sizes) : NowAt K as spr S H' (setS W j w2) U N := by
  have m := (h.wall j).muts
  have sub : ∀ c ∈ [(S j).x, (S j).pl], c ∈ (S j).own := fun c hc => by
    simp only [List.mem_cons, List.not_mem_nil, or_false] at hc
    rcases hc with rfl | rfl
    · exact own_x _
    · exact own_pl _
  have nr : ∀ k, ∀ a ∈ (S k).hm :: (S k).bxs, a ∉ [(S j).x, (S j).pl] := fun k a ha z => by
    by_cases e : k = j
    · rw [e] at ha
      simp only [List.mem_cons, List.not_mem_nil, or_false] at z
      rcases z with z | z
      · exact (List.nodup_cons.mp (h.nd j)).1 (List.mem_cons_of_mem _ (by rw [← z]; exact ha))
      · exact (List.nodup_cons.mp (List.nodup_cons.mp (h.nd j)).2).1 (by rw [← z]; exact ha)
    · exact h.own k j e a (own_rm ha) (sub a z)
  refine ⟨fun k => ?_, fun k => (h.room k).mut m b (nr k), fun k => mut_lst m b (h.nst k) (h.hst k), h.nst, fun k => ?_, live_but h.live b r.here, fun s hs => ⟨h.sprs b (fun c hc => ⟨j, sub c hc⟩) s hs, (h.sp s hs).2⟩, h.own, h.nd⟩
  · by_cases e : k = j
    · rw [e, setS_at]; exact r
    · rw [setS_ne e]
      exact (h.wall k).mut m b (fun z => h.own k j e _ (own_x _) (sub _ z)) (fun z => h.own k j e _ (own_pl _) (sub _ z))
  · by_cases e : k = j
    · rw [e, setS_at, ez]; exact mut_tup m b (h.hsz j)
    · rw [setS_ne e]; exact mut_tup m b (h.hsz k)
/-- what holds of a wall at all times -/
structure WOk (W : WallS) (n : Nat) (d : Int) (rs : List RuleL) : Prop where
  sm : WSm W n
  gok : GivOk W
  iok : InsOk W
  hd : W.cur.d = d
  hrs : W.cur.rs = rs
  pos : 0 < W.cur.boxes.length
theorem WOk.mono {W : WallS} {n m : Nat} {d : Int} {rs : List RuleL} (h : WOk W n d rs) (e : n ≤ m) (hm : m ≤ 90000) : WOk W m d rs :=
  ⟨⟨h.sm.len, h.sm.b12, fun S hS => (h.sm.bd S hS).mono e, Nat.le_trans h.sm.giv e, Nat.le_trans h.sm.pas e, hm⟩, h.gok, h.iok, h.hd, h.hrs, h.pos⟩
theorem WOk.call {W : WallS} {n : Nat} {d : Int} {rs : List RuleL} {c : Call} (h : WOk W n d rs) (hg : GoodB rs) (ok : CallOk W c) (hn : n + 16 ≤ 90000) : WOk (callW W c).1 (n + 16) d rs := by
  have st := call_step h.gok ok
  have hg2 : GoodB W.cur.rs := by rw [h.hrs]; exact hg
  exact ⟨st.wsm hg2 h.sm hn, st.gok h.gok, st.iok h.iok, st.d.trans h.hd, st.rs.trans h.hrs, by rw [st.len]; exact h.pos⟩
/-- what is held -/
def HeldAt (K : PySem.W.Frag) (as : List Addr) (H : Hp) (p : Addr) (d : DueS) : Prop := ∃ f u, SqT K H p [f, u] ∧ DueAt as H f d ∧ DueAt as H u d ∧ DueOk d
theorem HeldAt.mut {cs : List Addr} {p : Addr} {d : DueS} (m : ∀ c ∈ cs, Mut as H c) (b : But cs H H') (h : HeldAt K as H p d) : HeldAt K as H' p d := by
  obtain ⟨f, u, h1, h2, h3, h4⟩ := h
  exact ⟨f, u, mut_tup m b h1, h2.mut m b, h3.mut m b, h4⟩
theorem at2 (f : Fin 2 → V) (j : Fin 2) : ([f 0, f 1] : List V)[(j : Nat)]? = some (f j) := match j with
  | 0 => rfl
  | 1 => rfl
end
end K67

namespace K67
open PySem PySem.Spec PyProof.Rows L2 My StX
theorem same_but {cs : List Addr} {H H1 H2 : Hp} (s : Same H H1) (b : But cs H1 H2) (n : ∀ c ∈ cs, H c = none) : Same H H2 := fun c o e => b c o (fun z => by rw [n c z] at e; cases e) (s c o e)
/-- a list that stays -/
def LstAt (as : List Addr) (H : Hp) (c : Addr) (l : List V) : Prop := H c = some (.lst l) ∧ c ∉ as
/-- a list that is changed, and is none of the walls' or springs -/
def Aside {ι : Type} (as spr : List Addr) (S : ι → SideD) (c : Addr) : Prop := c ∈ as ∧ c ∉ spr ∧ ∀ k, c ∉ (S k).own
section
variable {ι : Type} [DecidableEq ι] {K : PySem.W.Frag} {as spr : List Addr} {S : ι → SideD} {H H' : Hp} {W U : ι → WallS} {N N' : Nat}
theorem LstAt.mut {cs : List Addr} {c : Addr} {l : List V} (m : ∀ c ∈ cs, Mut as H c) (b : But cs H H') (h : LstAt as H c l) : LstAt as H' c l := ⟨mut_lst m b h.2 h.1, h.2⟩
theorem LstAt.same {c : Addr} {l : List V} (s : Same H H') (h : LstAt as H c l) : LstAt as H' c l := ⟨s _ _ h.1, h.2⟩
theorem LstAt.new {c L : Addr} {l : List V} (n : H L = none) (h : LstAt as H c l) : LstAt (L :: as) H c l := ⟨h.1, fun z => by
  rcases List.mem_cons.mp z with z | z
  · rw [← z, h.1] at n; cases n
  · exact h.2 z⟩
/-- the rules, that stay -/
def RlAt (K : PySem.W.Frag) (as : List Addr) (H : Hp) (rl : Addr) (rs : List RuleL) : Prop := RulesAt K H rl rs ∧ rl ∉ as
theorem RlAt.mut {cs : List Addr} {rl : Addr} {rs : List RuleL} (m : ∀ c ∈ cs, Mut as H c) (b : But cs H H') (h : RlAt K as H rl rs) : RlAt K as H' rl rs := by
  obtain ⟨⟨qs, h1, h2⟩, h3⟩ := h
  exact ⟨⟨qs, mut_lst m b h3 h1, paired_map (fun _ _ _ x => mut_tup m b x) h2⟩, h3⟩
theorem RlAt.same {rl : Addr} {rs : List RuleL} (s : Same H H') (h : RlAt K as H rl rs) : RlAt K as H' rl rs := h.mut mut_no (But.of s)
theorem RlAt.new {L rl : Addr} {rs : List RuleL} (n : H L = none) (h : RlAt K as H rl rs) : RlAt K (L :: as) H rl rs := ⟨h.1, fun z => by
  obtain ⟨⟨qs, h1, _⟩, h3⟩ := h
  rcases List.mem_cons.mp z with z | z
  · rw [← z, h1] at n; cases n
  · exact h3 z⟩
theorem WallAt.mores {x pl : Addr} {w : WallS} : ∀ {ls : List Addr}, (∀ a ∈ ls, H a = none) → WallAt K as H x pl w → WallAt K (ls ++ as) H x pl w
  | [], _, h => h
  | L :: ls, n, h => (WallAt.mores (ls := ls) (fun a ha => n a (List.mem_cons_of_mem _ ha)) h).more (n L (by simp))
theorem RmAt.mores {rm hm : Addr} {bxs : List Addr} {boxes : List BoxS} {given : List (Option Nat)} : ∀ {ls : List Addr}, (∀ a ∈ ls, H a = none) → RmAt as H rm hm bxs boxes given → RmAt (ls ++ as) H rm hm bxs boxes given
  | [], _, h => h
  | L :: ls, n, h => (RmAt.mores (ls := ls) (fun a ha => n a (List.mem_cons_of_mem _ ha)) h).more (n L (by simp))
theorem NowAt.ownlive (h : NowAt K as spr S H W U N) (k : ι) : ∀ a ∈ (S k).own, H a ≠ none := fun a ha => by
  rcases List.mem_cons.mp ha with rfl | ha
  · exact (h.wall k).here _ (by simp)
  rcases List.mem_cons.mp ha with rfl | ha
  · exact (h.wall k).here _ (by simp)
  · exact (h.room k).here _ ha
theorem NowAt.new {L : Addr} (h : NowAt K as spr S H W U N) (n : H L = none) (s : Same H H') (hL : H' L ≠ none) : NowAt K (L :: as) spr S H' W U N := by
  refine ⟨fun k => ((h.wall k).more n).same s, fun k => ((h.room k).more n).same s, fun k => s _ _ (h.hst k), fun k z => ?_, fun k => same_tup s (h.hsz k), fun a ha => ?_, fun a ha => ?_, h.own, h.nd⟩
  · rcases List.mem_cons.mp z with z | z
    · rw [← z, h.hst k] at n; cases n
    · exact h.nst k z
  · rcases List.mem_cons.mp ha with z | z
    · rw [z]; exact hL
    · exact fun e => h.live a z (s.free e)
  · obtain ⟨h1, h2, h3⟩ := h.sp a ha
    exact ⟨h1.same s, List.mem_cons_of_mem _ h2, h3⟩
theorem NowAt.aside {L : Addr} (h : NowAt K as spr S H W U N) (n : H L = none) : Aside (L :: as) spr S L := by
  refine ⟨by simp, fun z => ?_, fun k z => h.ownlive k L z n⟩
  obtain ⟨⟨w0, w1, w2, e, _⟩, _⟩ := h.sp L z
  rw [n] at e; cases e
theorem NowAt.spring {p : Addr} (h : NowAt K as spr S H W U N) (hp : SpringAt H p N) (ap : Aside as spr S p) : NowAt K as (p :: spr) S H W U N :=
  ⟨h.wall, h.room, h.hst, h.nst, h.hsz, h.live, fun s hs => by
    rcases List.mem_cons.mp hs with rfl | z
    · exact ⟨hp, ap.1, ap.2.2⟩
    · exact h.sp s z, h.own, h.nd⟩
theorem Aside.more {c L : Addr} (h : Aside as spr S c) : Aside (L :: as) spr S c := ⟨List.mem_cons_of_mem _ h.1, h.2⟩
theorem Aside.spring {c p : Addr} (h : Aside as spr S c) (n : c ≠ p) : Aside as (p :: spr) S c := ⟨h.1, fun z => by
  rcases List.mem_cons.mp z with z | z
  · exact n z
  · exact h.2.1 z, h.2.2⟩
/-- a list that is aside is changed -/
theorem aside_mut {c : Addr} {l : List V} (a : Aside as spr S c) (e : H c = some (.lst l)) : ∀ b ∈ [c], Mut as H b := fun b hb => by
  rw [List.mem_singleton.mp hb]
  exact .inl ⟨a.1, _, e⟩
theorem NowAt.put {c : Addr} {l l2 : List V} (h : NowAt K as spr S H W U N) (a : Aside as spr S c) (e : H c = some (.lst l)) : But [c] H (upd H c (.lst l2)) ∧ NowAt K as spr S (upd H c (.lst l2)) W U N := by
  have b : But [c] H (upd H c (.lst l2)) := (But.refl _ _).put (.inr (by simp))
  refine ⟨b, h.chg (aside_mut a e) b (fun k x hx z => a.2.2 k (by rw [← List.mem_singleton.mp z]; exact hx)) (fun s hs => ?_) (fun x hx => by rw [List.mem_singleton.mp hx, upd_same]; exact fun z => by cases z)⟩
  obtain ⟨⟨w0, w1, w2, e2, r⟩, _⟩ := h.sp s hs
  exact ⟨w0, w1, w2, (upd_ne (fun z => a.2.1 (by rw [← z]; exact hs))).trans e2, r⟩
end
end K67

namespace K67
open PySem PySem.Spec PyProof.Rows L2 My
/-! ### what a box is taken for is a word -/
def TfOk (x : Str) : Prop := PyData.canLay0 (.str x) = true
theorem acts_ok : ∀ x ∈ acts, TfOk x := by
  intro x hx
  simp only [acts, List.mem_cons, List.not_mem_nil, or_false] at hx
  unfold TfOk
  rcases hx with rfl | rfl | rfl | rfl | rfl | rfl | rfl <;> decide +kernel
theorem act_tf {x : BoxS × ToldS} {a : Str} (h : TfOk x.1.tf) (ha : a ∈ acts) : TfOk (act x a).1.tf ∧ (act x a).1.age = x.1.age := by
  unfold act
  split
  · unfold sendCode
    split
    · split
      · exact ⟨h, rfl⟩
      · exact ⟨h, rfl⟩
    · exact ⟨h, rfl⟩
  · split
    · exact ⟨h, rfl⟩
    · split
      · refine ⟨?_, rfl⟩
        show TfOk (if x.1.inside.isEmpty = true then "free" else "full")
        unfold TfOk
        split <;> decide +kernel
      · split
        · exact ⟨h, rfl⟩
        · exact ⟨acts_ok _ ha, rfl⟩
theorem fold_tf : ∀ (r : RuleL) (x : BoxS × ToldS), (∀ a ∈ r, a ∈ acts) → TfOk x.1.tf → TfOk (r.foldl act x).1.tf ∧ (r.foldl act x).1.age = x.1.age
  | [], x, _, h => ⟨h, rfl⟩
  | a :: r, x, ha, h => by
    rw [List.foldl_cons]
    have h1 := act_tf h (ha a (List.mem_cons_self ..))
    have h2 := fold_tf r (act x a) (fun b hb => ha b (List.mem_cons_of_mem _ hb)) h1.1
    exact ⟨h2.1, h2.2.trans h1.2⟩
theorem at_acts {rb : List RuleL} (hg : GoodB rb) {i : Nat} (hi : i < 8) : ∀ a ∈ at_ rb i, a ∈ acts := (hg.good _ (List.mem_of_getElem? (hg.get hi))).2
theorem carry_tf {r : RuleL} {m : Str} {x : BoxS × ToldS} (hr : ∀ a ∈ r, a ∈ acts) (h : TfOk x.1.tf) : TfOk (carry r m x).1.tf := (fold_tf r (x.1, { x.2 with moments := x.2.moments ++ [m] }) hr h).1
theorem go_tf {sh : Bool} {m1 m2 : Str} {r1 r2 : RuleL} {x : BoxS × ToldS} (h1 : ∀ a ∈ r1, a ∈ acts) (h2 : ∀ a ∈ r2, a ∈ acts) (h : TfOk x.1.tf) : TfOk (goAway sh m1 m2 r1 r2 x).1.tf := by
  unfold goAway
  split
  · split
    · exact carry_tf h1 h
    · exact carry_tf h2 h
  · exact h
theorem lay_tf {p : Int} {l : Bool} {x : BoxS × ToldS} (h : TfOk x.1.tf) : TfOk (layIn p l x).1.tf := by
  unfold layIn
  split
  · exact h
  · exact h
theorem takeIf_tf {p : Int} {t : Bool} {x : BoxS × ToldS} (h : TfOk x.1.tf) : TfOk (takeIf p t x).1.tf := by
  unfold takeIf
  split
  · exact h
  · exact h
theorem addW_tf {c : Bool} {w : Str} {x : BoxS × ToldS} (h : TfOk x.1.tf) : TfOk (addW c w x).1.tf := by
  unfold addW
  split
  · exact h
  · exact h
theorem doF_tf {rs : List RuleL} (hg : GoodB rs) {d n : Int} {x : Deed} {S : BoxS} (h : TfOk S.tf) : TfOk (doF rs d n x S).1.tf := by
  have r := fun (i : Nat) (hi : i < 8) => at_acts hg hi
  cases x with
  | bring l s =>
    show TfOk (bringF rs n l s S).1.tf
    unfold bringF
    split
    · exact go_tf (r 1 (by decide)) (r 2 (by decide)) (lay_tf (carry_tf (r 0 (by decide)) h))
    · exact h
  | code p t s =>
    show TfOk (codeF rs p t s S).1.tf
    unfold codeF
    split
    · exact go_tf (r 4 (by decide)) (r 5 (by decide)) (addW_tf (takeIf_tf (carry_tf (r 3 (by decide)) h)))
    · exact addW_tf h
  | pass =>
    show TfOk (passBy S).1.tf
    unfold passBy
    split
    · exact h
    · exact h
  | day =>
    show TfOk (dayF d rs S).1.tf
    unfold dayF
    split
    · exact h
    · split
      · exact carry_tf (r 6 (by decide)) h
      · exact h
  | power => exact carry_tf (r 7 (by decide)) h
end K67

namespace K67
open PySem PySem.Spec PyProof.Rows L2 My StX
/-! ### the place of a parcel is the best one -/
theorem keyF_lex {sizes : List Int} {a m : Nat} : HT.lexLt (keyF sizes a) (keyF sizes m) = decide (sizes.getD a 0 < sizes.getD m 0 ∨ (sizes.getD a 0 = sizes.getD m 0 ∧ a < m)) := by
  unfold keyF
  rw [HT.lexLt_cons]
  by_cases c : sizes.getD a 0 = sizes.getD m 0
  · rw [if_pos c, HT.lexLt_cons]
    by_cases e : (a : Int) = (m : Int)
    · rw [if_pos e, decide_eq_false (p := _ ∨ _) (by omega)]
      rfl
    · rw [if_neg e]
      exact decide_eq_decide.mpr ⟨fun z => .inr ⟨c, by omega⟩, fun z => by omega⟩
  · rw [if_neg c]
    exact decide_eq_decide.mpr ⟨fun z => .inl z, fun z => by
      rcases z with z | z
      · exact z
      · exact absurd z.1 c⟩
/-- a is no worse than m -/
def NoW (sizes : List Int) (m a : Nat) : Prop := ¬ (sizes.getD a 0 < sizes.getD m 0 ∨ (sizes.getD a 0 = sizes.getD m 0 ∧ a < m))
theorem fold_best {sizes : List Int} : ∀ (l : List Nat) (b : Nat), (b :: l).Pairwise (· < ·) → ∃ m, l.foldl (lessF sizes) (some b) = some m ∧ b ≤ m ∧ ∀ a ∈ b :: l, NoW sizes m a
  | [], b, _ => ⟨b, rfl, Nat.le_refl _, fun a ha => by
    rw [List.mem_singleton.mp ha]
    unfold NoW
    omega⟩
  | c :: l, b, asc => by
    obtain ⟨h1, h2⟩ := List.pairwise_cons.mp asc
    obtain ⟨h3, h4⟩ := List.pairwise_cons.mp h2
    have bc : b < c := h1 c (by simp)
    rw [List.foldl_cons]
    by_cases e : sizes.getD c 0 < sizes.getD b 0
    · have el : lessF sizes (some b) c = some c := if_pos e
      rw [el]
      obtain ⟨m, hm, hle, hall⟩ := fold_best l c h2
      refine ⟨m, hm, by omega, fun a ha => ?_⟩
      rcases List.mem_cons.mp ha with z | z
      · have hc := hall c (by simp)
        unfold NoW at hc ⊢
        rw [z]
        omega
      · exact hall a z
    · have el : lessF sizes (some b) c = some b := if_neg e
      rw [el]
      obtain ⟨m, hm, hle, hall⟩ := fold_best l b (List.pairwise_cons.mpr ⟨fun x hx => h1 x (List.mem_cons_of_mem _ hx), h4⟩)
      refine ⟨m, hm, hle, fun a ha => ?_⟩
      rcases List.mem_cons.mp ha with z | z
      · exact hall a (by rw [z]; simp)
      rcases List.mem_cons.mp z with z | z
      · have hb := hall b (by simp)
        unfold NoW at hb ⊢
        rw [z]
        by_cases k : c < m
        · omega
        · omega
      · exact hall a (List.mem_cons_of_mem _ z)
theorem place_none {sizes : List Int} {boxes : List BoxS} {size : Int} (h : placeF sizes boxes size = none) : fitL sizes boxes size boxes.length = [] := by
  unfold placeF at h
  cases e : fitL sizes boxes size boxes.length with
  | nil => rfl
  | cons b l =>
    have asc := fitL_lt (sizes := sizes) (boxes := boxes) (size := size) (n := boxes.length)
    rw [e] at h asc
    obtain ⟨m, hm, _⟩ := fold_best (sizes := sizes) l b asc
    rw [show (b :: l).foldl (lessF sizes) none = l.foldl (lessF sizes) (some b) from rfl, hm] at h
    cases h
theorem place_best {sizes : List Int} {boxes : List BoxS} {size : Int} {i : Nat} (h : placeF sizes boxes size = some i) : i ∈ fitL sizes boxes size boxes.length ∧ ∀ a ∈ fitL sizes boxes size boxes.length, HT.lexLt (keyF sizes a) (keyF sizes i) = false := by
  unfold placeF at h
  cases e : fitL sizes boxes size boxes.length with
  | nil =>
    rw [e] at h
    cases h
  | cons b l =>
    have asc := fitL_lt (sizes := sizes) (boxes := boxes) (size := size) (n := boxes.length)
    rw [e] at h asc
    have hin := fold_mem _ _ _ h
    obtain ⟨m, hm, _, hall⟩ := fold_best (sizes := sizes) l b asc
    rw [show (b :: l).foldl (lessF sizes) none = l.foldl (lessF sizes) (some b) from rfl, hm] at h
    obtain rfl := Option.some.inj h
    refine ⟨hin.elim id (fun z => by cases z), fun a ha => ?_⟩
    rw [keyF_lex]
    exact decide_eq_false (hall a ha)
theorem set_other {W : WallS} {i at_ : Nat} {S : BoxS} (h : at_ ≠ i) : boxOf (setBox W i S) at_ = boxOf W at_ := by
  unfold boxOf setBox
  rw [List.getD_eq_getElem?_getD, List.getD_eq_getElem?_getD, List.getElem?_set_ne (fun z => h z.symm)]
/-! ### a box's stand, kept -/
def StdOut (as : List Addr) (H : Hp) (p : Addr) (S : BoxS) : Prop := ∃ (l1 l2 : Addr) (ys : List Int), H p = some (.tup [.bl S.ajar, .ref l1, .str S.tf, .ref l2, oV S.age]) ∧ H l1 = some (.lst (S.inside.map V.int)) ∧ H l2 = some (.lst (ys.map V.int)) ∧ ys.Perm S.valid ∧ ys.Pairwise (· ≤ ·) ∧ l1 ∉ as ∧ l2 ∉ as
theorem StdOut.mut {as cs : List Addr} {H H' : Hp} {p : Addr} {S : BoxS} (m : ∀ c ∈ cs, Mut as H c) (b : But cs H H') (h : StdOut as H p S) : StdOut as H' p S := by
  obtain ⟨l1, l2, ys, h1, h2, h3, h4, h5, h6, h7⟩ := h
  exact ⟨l1, l2, ys, mut_htup m b h1, mut_lst m b h6 h2, mut_lst m b h7 h3, h4, h5, h6, h7⟩
theorem StdOut.same {as : List Addr} {H H' : Hp} {p : Addr} {S : BoxS} (s : Same H H') (h : StdOut as H p S) : StdOut as H' p S := h.mut mut_no (But.of s)
theorem StdAt.out {as : List Addr} {H0 H : Hp} {p : Addr} {S : BoxS} {ys : List Int} (live : ∀ a ∈ as, H0 a ≠ none) (h : StdAt H0 H p S ys) : StdOut as H p S := by
  obtain ⟨l1, l2, h1, h2, h3, _, n1, n2, _, hp, ho⟩ := h
  exact ⟨l1, l2, ys, h1, h2, h3, hp, ho, fun z => live _ z n1, fun z => live _ z n2⟩
/-- one form of a box's data -/
def srt (S : BoxS) : List Int := S.valid.mergeSort
theorem StdOut.dp {K : PySem.W.Frag} {as : List Addr} {H : Hp} {p : Addr} {S : BoxS} (h : StdOut as H p S) : Dp K H (.ref p) (stdD S (srt S)) := by
  obtain ⟨l1, l2, ys, h1, h2, h3, hp, ho, _⟩ := h
  have hs : (srt S).Pairwise (· ≤ ·) := by
    have := List.pairwise_mergeSort (le := fun a b : Int => decide (a ≤ b)) (fun a b c x y => by simp only [decide_eq_true_eq] at *; omega) (fun a b => by simp only [Bool.or_eq_true, decide_eq_true_eq]; omega) S.valid
    exact this.imp fun z => of_decide_eq_true z
  have e : srt S = ys := PySem.W.ksm_same ((List.mergeSort_perm ..).trans hp.symm) hs ho
  rw [e]
  exact dp_std h1 h2 h3
theorem sm_oD (o : Option Int) : Sm 0 (oD o) := by
  cases o with
  | none => exact sm_none
  | some i => exact sm_int i
theorem sm_std {S : BoxS} {ys : List Int} (h : TfOk S.tf) : Sm 2 (stdD S ys) := sm_tuple fun d hd => by
  simp only [List.mem_cons, List.not_mem_nil, or_false] at hd
  rcases hd with rfl | rfl | rfl | rfl | rfl
  · exact (sm_bool _).mono (by decide)
  · exact sm_ints _
  · exact (sok h).mono (by decide)
  · exact sm_ints _
  · exact (sm_oD _).mono (by decide)
def TfW (W : WallS) : Prop := ∀ S ∈ W.cur.boxes, TfOk S.tf
theorem Step.tfw {W W2 : WallS} (st : Step W W2) (hg : GoodB W.cur.rs) (h : TfW W) : TfW W2 := fun S2 h2 => by
  obtain ⟨S, hS, hc, _⟩ := st.box S2 h2
  rcases hc with rfl | ⟨k, x, rfl⟩
  · exact h _ hS
  · exact doF_tf hg (h S hS)
/-- all boxes' stands -/
def AhAt (as : List Addr) (H : Hp) (ah : Addr) (boxes : List BoxS) : Prop := ∃ ps : List Addr, H ah = some (.lst (ps.map V.ref)) ∧ ah ∉ as ∧ Paired (StdOut as H) ps boxes
theorem AhAt.mut {as cs : List Addr} {H H' : Hp} {ah : Addr} {boxes : List BoxS} (m : ∀ c ∈ cs, Mut as H c) (b : But cs H H') (h : AhAt as H ah boxes) : AhAt as H' ah boxes := by
  obtain ⟨ps, h1, h2, h3⟩ := h
  exact ⟨ps, mut_lst m b h2 h1, h2, paired_map (fun _ _ _ x => x.mut m b) h3⟩
theorem AhAt.same {as : List Addr} {H H' : Hp} {ah : Addr} {boxes : List BoxS} (s : Same H H') (h : AhAt as H ah boxes) : AhAt as H' ah boxes := h.mut mut_no (But.of s)
def allD (boxes : List BoxS) : PyData := .list (boxes.map fun S => stdD S (srt S))
theorem dp_all {K : PySem.W.Frag} {as : List Addr} {H : Hp} : ∀ {ps : List Addr} {boxes : List BoxS}, Paired (StdOut as H) ps boxes → DpAll K H (ps.map V.ref) (boxes.map fun S => stdD S (srt S))
  | _, _, .nil => .nil
  | _, _, .cons r t => .cons r.dp (dp_all t)
theorem sm_all {boxes : List BoxS} (h : ∀ S ∈ boxes, TfOk S.tf) : Sm 3 (allD boxes) := sm_list fun d hd => by
  obtain ⟨S, hS, rfl⟩ := List.mem_map.mp hd
  exact sm_std (h S hS)
end K67

namespace K67
open PySem PySem.Spec PyProof.Rows L2 My
/-- e.f as a target -/
def gFld (K : PySem.W.Frag) (ta : TE) (f : Str) : TG := fun v σ H Q => ta σ H fun x H1 => ∃ a C dx fs, x = .ref a ∧ H1 a = some (.ins C dx fs) ∧ Cls K C ∧ NoAttr K C f ∧ fs.length < 1000 ∧ Q σ (upd H1 a (.ins C dx (putF f v fs)))
theorem pg_fld {X : Cx} {o : Expr} {ta : TE} {f : Str} {pos : Pos} (ho : PE X o ta) : PG X (.Attribute o f pos) (gFld X.K ta f) := by
  refine ⟨fun pins s σ H v u Q I r h => ?_⟩
  refine PySem.W.kas_attr (thn (ho.run pins s σ H _ I h) fun ov s1 ⟨x, H1, I1, rx, a, C, dx, fs, ex, ea, c, n, l, q⟩ => ?_)
  subst ex
  obtain rfl : ov = Value.ref a := rx
  exact setattr_ok I1 ea c n l r fun s2 I2 => ⟨σ, _, I2, q⟩
/-- o.m(p=..): a method with one argument, by its name -/
def kwG1 {α : Type} (us ws : List α) : List α := match us, ws with
  | [a], [x] => [a, x]
  | _, _ => []
theorem kwm1_of {K : PySem.W.Frag} {x qual : Str} {params : Arguments} {body : List Stmt} {scope : Scope} {kws : List (Str × V)} {f : Addr} {fd : FuncData} {p0 p1 : Str} (F : FunD K x qual params body scope [] kws f fd)
    (h : ∀ (kV doc pm : Value) (an : Option Addr) (cdv ct : Value) (a u : Value), bindArgs (PySem.W.fnOf x qual params body scope .none kV doc pm an cdv ct) ⟨[a], [(p1, u)]⟩ = pure [(p0, a), (p1, u)]) : KBn K fd [p0, p1] 1 [p1] kwG1 kwG1 := by
  obtain ⟨oc, od, dV, kV, doc, pm, an, cdv, ct, osl, efd, lk, hcd, hD, hK⟩ := F.ex
  subst efd
  rcases hD with ⟨_, ed⟩ | ⟨e, _⟩
  · subst ed
    refine ⟨fun s us ws _ n1 n2 => ?_, fun {vs us zs ws} q1 q2 => ?_⟩
    · match us, ws, n1, n2 with
      | [a], [u], _, _ => exact .of_eq (h kV doc pm an cdv ct a u)
    · match vs, us, zs, ws, q1, q2 with
      | [], _, _, _, .nil, _ => exact .nil
      | [_], _, [], _, .cons _ .nil, .nil => exact .nil
      | [_], _, [_], _, .cons a .nil, .cons b .nil => exact .cons a (.cons b .nil)
      | [_], _, _ :: _ :: _, _, .cons _ .nil, .cons _ (.cons _ _) => exact .nil
      | _ :: _ :: _, _, _, _, .cons _ (.cons _ _), _ => exact .nil
  · exact absurd rfl e
/-- an undo: the wall as it was before the last change -/
def undoW (W : WallS) : WallS := ⟨W.sizes, (W.past[W.past.length - 1]?).getD W.cur, W.past.dropLast⟩
def changeW (W : WallS) (d : Int) (rs : List RuleL) : WallS := ⟨W.sizes, ⟨d, rs, W.cur.boxes, W.cur.given⟩, W.past ++ [W.cur]⟩
theorem paired_dropLast {α β : Type} {F : α → β → Prop} : ∀ {l : List α} {m : List β}, Paired F l m → Paired F l.dropLast m.dropLast
  | _, _, .nil => .nil
  | _, _, .cons _ .nil => .nil
  | _, _, .cons r (.cons r2 t) => .cons r (paired_dropLast (.cons r2 t))
section
variable {P : Program} {w : World} {K : PySem.W.Frag} {mg : Str → Option Value} {base : Heap}
def sp_Wall_book (K : PySem.W.Frag) : Sp := fun vs H Q _ => ∃ (x pl : Addr) (as : List Addr) (W : WallS), vs = [.ref x] ∧ WallAt K as H x pl W ∧ ∀ k, BookAt K H k W.cur.d W.cur.rs → GoodB W.cur.rs → Q (.ref k) H
set_option maxHeartbeats 2000000 in
theorem ok_Wall_book (T : Txt w K mg) {fd : FuncData} (F : FunD K d_Wall_book.name d_Wall_book.qual d_Wall_book.params d_Wall_book.body d_Wall_book.scope (d_Wall_book.dvs K) (d_Wall_book.kws K) (My.gAd K ("Wall", "book")) fd) : FnOk P w K mg base C8.CX0 1 (My.gAd K ("Wall", "book")) fd ["self"] (sp_Wall_book K) := by
  refine F.ok sc_Wall_book (fun vs H Q E h => ?_) (fun cdv A outer s H vs Q E hr h => ?_)
  · obtain ⟨x, pl, as, W, rfl, _⟩ := h
    rfl
  · have hu := L2.hu_of hr
    obtain ⟨x, pl, as, W, rfl, hW, q⟩ := h
    refine ⟨_, (PSs.nox ((pss_one (ps_ret (My.pe_fldK (K := K) rfl (pv 0) rfl))))), ?_⟩
    obtain ⟨dx, k, sz, bl, gl, xs, hx, hS, ⟨fs, hF⟩, r⟩ := id hW
    exact ⟨_, rfl, x, _, dx, _, _, rfl, hx, T.cl_Wall, T.no_Wall__book, rfl, q k hF.book hF.good⟩
theorem c_Wall_book (T : Txt w K mg) : My.Prp P w K mg base 1 (He.ga K "Wall") "book" (sp_Wall_book K) := by
  obtain ⟨fd, F⟩ := T.f_Wall_book
  obtain ⟨pa, pr⟩ := T.pr_Wall_book
  exact ⟨pa, _, fd, _, T.cl_Wall, pr, ok_Wall_book T F, F.bindsN (fun _ _ _ _ _ _ us hl => match us, hl with | [_], _ => rfl)⟩
def sp_Wall_change (K : PySem.W.Frag) : Sp := fun vs H Q _ => ∃ (x pl b : Addr) (as : List Addr) (W : WallS) (d : Int) (rs : List RuleL), vs = [.ref x, .ref b] ∧ WallAt K as H x pl W ∧ (∀ a ∈ as, H a ≠ none) ∧ W.cur.boxes.length ≤ 12 ∧ W.past.length ≤ 100000 ∧ BookAt K H b d rs ∧ GoodB rs ∧
  ∀ H', But [x, pl] H H' → WallAt K as H' x pl (changeW W d rs) → Q .non H'
set_option maxHeartbeats 2000000 in
theorem ok_Wall_change (T : Txt w K mg) {fd : FuncData} (F : FunD K d_Wall_change.name d_Wall_change.qual d_Wall_change.params d_Wall_change.body d_Wall_change.scope (d_Wall_change.dvs K) (d_Wall_change.kws K) (He.fAd K d_Wall_change.at_) fd) : FnOk P w K mg base C8.CX0 5 (He.fAd K d_Wall_change.at_) fd ["self", "book"] (sp_Wall_change K) := by
  have c_Wall_remember := c_Wall_remember (P := P) (w := w) (base := base) T
  refine F.ok sc_Wall_change (fun vs H Q E h => ?_) (fun cdv A outer s H vs Q E hr h => ?_)
  · obtain ⟨x, pl, b, as, W, d, rs, rfl, _⟩ := h
    rfl
  · have hu := L2.hu_of hr
    obtain ⟨x, pl, b, as, W, d, rs, rfl, hW, live, h12, hpast, hB, hg, q⟩ := h
    refine ⟨_, (PSs.nox ((pss_cons (ps_expr (C8.pe_mt0 c_Wall_remember hr (by decide) (pv 0)))
  (pss_one (ps_fld (pv 0) (pv 1) rfl))))), ?_⟩
    obtain ⟨dx0, _, _, _, _, _, hx0, _⟩ := id hW
    refine ⟨_, rfl, x, dx0, _, rfl, hx0, rfl, x, pl, as, W, rfl, hW, live, h12, hpast, fun H2 dx k sz bl gl fs xs hK => ?_⟩
    have hW2 := hK.wall
    have hB2 := mut_book hW.muts hK.but hB
    have hx2 := hide_same _ _ _ _ hK.hx
    refine ⟨_, rfl, _, rfl, x, _, dx, _, rfl, hx2, T.cl_Wall, T.no_Wall__book, (by show 5 < 1000; decide), ?_⟩
    show Q V.non (upd H2 x (.ins (He.ga K "Wall") dx (wlf b sz bl gl pl)))
    obtain ⟨dx', k', sz', bl', gl', xs', hx', hs', ⟨fs', hF⟩, hpl, hpa, pin⟩ := hW2
    rw [hx2] at hx'
    obtain ⟨rfl, rfl, rfl, rfl, rfl⟩ : dx = dx' ∧ k = k' ∧ sz = sz' ∧ bl = bl' ∧ gl = gl' := by
      injection hx' with e
      injection e with _ e2 e3
      simp only [wlf, List.cons.injEq, Prod.mk.injEq, V.ref.injEq, true_and, and_true] at e3
      obtain ⟨h1, h2, h3, h4⟩ := e3
      exact ⟨e2, h1, h2, h3, h4⟩
    have m : ∀ c ∈ [x], Mut as H2 c := fun c hc => by
      rw [List.mem_singleton.mp hc]
      exact .inr ⟨_, _, _, _, _, _, _, hx2⟩
    have bb : But [x] H2 (upd H2 x (.ins (He.ga K "Wall") dx (wlf b sz bl gl pl))) := (But.refl _ _).put (.inr (by simp))
    have npx : pl ≠ x := fun z => by rw [z, hx2] at hpl; cases hpl
    have hF2 := hF.mut m bb
    refine q _ (hK.but.trans (bb.mono fun c hc => by rw [List.mem_singleton.mp hc]; simp)) ⟨dx, b, sz, bl, gl, xs', upd_same, mut_tup m bb hs', ⟨fs', ⟨mut_book m bb hB2, hg, hF2.hbl, hF2.hfs, hF2.hgl, hF2.out⟩⟩, (upd_ne npx).trans hpl, paired_map (fun _ _ _ y => y.mut m bb) hpa, pin⟩
theorem c_Wall_change (T : Txt w K mg) : C8.Met P w K mg base 5 (He.ga K "Wall") "change" (sp_Wall_change K) [] := by
  obtain ⟨fd, F⟩ := T.f_Wall_change
  exact ⟨_, fd, _, _, T.cl_Wall, T.m_Wall_change, ok_Wall_change T F, F.bindsN (fun _ _ _ _ _ _ us hl => match us, hl with | [_, _], _ => rfl), .nil⟩
theorem mn_Wall_change (T : Txt w K mg) : My.MetN P w K mg base 5 (He.ga K "Wall") "change" (sp_Wall_change K) ["book"] kwG1 := by
  obtain ⟨fd, F⟩ := T.f_Wall_change
  exact ⟨_, fd, _, _, T.cl_Wall, T.m_Wall_change, ok_Wall_change T F, kwm1_of F fun _ _ _ _ _ _ _ _ => rfl⟩
def sp_Wall_undo (K : PySem.W.Frag) : Sp := fun vs H Q _ => ∃ (x pl : Addr) (as : List Addr) (W : WallS), vs = [.ref x] ∧ WallAt K as H x pl W ∧ W.past ≠ [] ∧
  ∀ H', But [x, pl] H H' → WallAt K as H' x pl (undoW W) → Q .non H'
set_option maxHeartbeats 2000000 in
theorem ok_Wall_undo (T : Txt w K mg) {fd : FuncData} (F : FunD K d_Wall_undo.name d_Wall_undo.qual d_Wall_undo.params d_Wall_undo.body d_Wall_undo.scope (d_Wall_undo.dvs K) (d_Wall_undo.kws K) (He.fAd K d_Wall_undo.at_) fd) : FnOk P w K mg base C8.CX0 1 (He.fAd K d_Wall_undo.at_) fd ["self"] (sp_Wall_undo K) := by
  refine F.ok sc_Wall_undo (fun vs H Q E h => ?_) (fun cdv A outer s H vs Q E hr h => ?_)
  · obtain ⟨x, pl, as, W, rfl, _⟩ := h
    rfl
  · have hu := L2.hu_of hr
    obtain ⟨x, pl, as, W, rfl, hW, hne, q⟩ := h
    refine ⟨_, (PSs.nox ((pss_cons (ps_if (pt_not (My.pt_truthK (K := K) rfl (My.pe_fldK (K := K) rfl (pv 0) rfl) (by intro _; rfl)))
  (pss_one ps_never)
  pss_nil)
  (pss_one (ps_asg (My.pe_bm0K (K := K) rfl PySem.F.plainAttrs_list PySem.F.slot_list_pop PySem.F.type_list_pop mt_pop (My.pe_fldK (K := K) rfl (pv 0) rfl)) (My.pg_tupK (K := K) (n := 3) rfl rfl (pgs_cons (pg_fld (pv 0)) (pgs_cons (pg_fld (pv 0)) (pgs_cons (pg_fld (pv 0)) pgs_nil))))))))), ?_⟩
    obtain ⟨dx, k, sz, bl, gl, xs, hx, hs, hsn, hpl, hpa, pin⟩ := id hW
    have hlp := hpa.length
    have pos : 0 < W.past.length := List.length_pos_iff.mpr hne
    obtain ⟨y, hy⟩ : ∃ y, xs[xs.length - 1]? = some y := ⟨xs[xs.length - 1]'(by omega), List.getElem?_eq_getElem (by omega)⟩
    obtain ⟨s0, hs0, t, k2, bl2, gl2, rfl, ht, hsn2⟩ := paired_at hpa hy
    have eU : undoW W = ⟨W.sizes, s0, W.past.dropLast⟩ := by
      unfold undoW
      rw [← hlp, hs0]
      rfl
    refine ⟨_, rfl, x, _, dx, _, _, rfl, hx, T.cl_Wall, T.no_Wall__past, rfl, true, ?_, L2.iteF ?_⟩
    · refine .inl ⟨xs, SqL.of hpl, ?_⟩
      cases xs with
      | nil => exact absurd hlp (by show ¬ 0 = _; omega)
      | cons _ _ => rfl
    refine ⟨_, rfl, x, _, dx, _, _, rfl, hx, T.cl_Wall, T.no_Wall__past, rfl, .inl ⟨rfl, _, SqL.of hpl⟩, pl, xs, _, rfl, rfl, hpl, hy, ?_⟩
    have npx : pl ≠ x := fun z => by rw [z, hx] at hpl; cases hpl
    have m := hW.muts
    have b1 : But [x, pl] H (upd H pl (.lst xs.dropLast)) := (But.refl _ _).put (.inr (by simp))
    have hx1 : upd H pl (.lst xs.dropLast) x = some (.ins (He.ga K "Wall") dx (wlf k sz bl gl pl)) := (upd_ne npx.symm).trans hx
    refine ⟨t, _, rfl, mut_tup m b1 ht, rfl, ?_⟩
    refine ⟨_, _, rfl, _, rfl, x, _, dx, _, rfl, hx1, T.cl_Wall, T.no_Wall__book, (by show 5 < 1000; decide), ?_⟩
    refine ⟨_, _, rfl, _, rfl, x, _, dx, _, rfl, upd_same, T.cl_Wall, T.no_Wall__boxes, (by show 5 < 1000; decide), ?_⟩
    refine ⟨_, _, rfl, _, rfl, x, _, dx, _, rfl, upd_same, T.cl_Wall, T.no_Wall__given, (by show 5 < 1000; decide), rfl, ?_⟩
    show Q V.non (upd (upd (upd (upd H pl (.lst xs.dropLast)) x (.ins (He.ga K "Wall") dx (wlf k2 sz bl gl pl))) x (.ins (He.ga K "Wall") dx (wlf k2 sz bl2 gl pl))) x (.ins (He.ga K "Wall") dx (wlf k2 sz bl2 gl2 pl)))
    have b4 : But [x, pl] H (upd (upd (upd (upd H pl (.lst xs.dropLast)) x (.ins (He.ga K "Wall") dx (wlf k2 sz bl gl pl))) x (.ins (He.ga K "Wall") dx (wlf k2 sz bl2 gl pl))) x (.ins (He.ga K "Wall") dx (wlf k2 sz bl2 gl2 pl))) := ((b1.put (.inr (by simp))).put (.inr (by simp))).put (.inr (by simp))
    refine q _ b4 ?_
    rw [eU]
    exact ⟨dx, k2, sz, bl2, gl2, xs.dropLast, upd_same, mut_tup m b4 hs, hsn2.mut m b4, (upd_ne npx).trans ((upd_ne npx).trans ((upd_ne npx).trans upd_same)), paired_map (fun _ _ _ y => y.mut m b4) (paired_dropLast hpa), pin⟩
theorem c_Wall_undo (T : Txt w K mg) : C8.Met P w K mg base 1 (He.ga K "Wall") "undo" (sp_Wall_undo K) [] := by
  obtain ⟨fd, F⟩ := T.f_Wall_undo
  exact ⟨_, fd, _, _, T.cl_Wall, T.m_Wall_undo, ok_Wall_undo T F, F.bindsN (fun _ _ _ _ _ _ us hl => match us, hl with | [_], _ => rfl), .nil⟩
end
end K67

namespace K67
open PySem PySem.Spec PyProof.Rows L2 My
/-! ### a list is, or is not, the empty one: its items are not looked at -/
def rNeE (K : PySem.W.Frag) : R2 := fun x y H Q => ∃ a b xs, x = .ref a ∧ y = .ref b ∧ SqL K H a xs ∧ H b = some (.lst []) ∧ Q (.bl (!xs.isEmpty)) H
theorem op_neE {X : Cx} {K : PySem.W.Frag} (e : X.K = K) (hu : X.A.units + 64 < cLine) : OpR X (compareOp .NotEq) (rNeE K) := by
  subst e
  intro pins s σ H x y v u Q I rx ry h
  obtain ⟨a, b, xs, rfl, rfl, hx, hy, q⟩ := h
  cases xs with
  | nil =>
    refine op_neD hu pins s σ H _ _ v u Q I rx ry ⟨.list [], .list [], .lst hx .nil, .lst (SqL.of hy) .nil, by decide +kernel, by decide +kernel, ?_⟩
    exact q
  | cons z zs =>
    cases (show v = Value.ref a from rx)
    cases (show u = Value.ref b from ry)
    obtain ⟨us, r1, p1, _⟩ := I.list hx
    obtain ⟨ws, r2, p2, _⟩ := I.list (SqL.of hy)
    refine PySem.SeqAt.RcNeAt.lists_lengths p1.isList p2.isList ?_ (by omega) _ _ _ _ ⟨.bl true, H, I, rfl, q⟩
    have e1 := r1.length
    have e2 := r2.length
    simp only [List.length_cons, List.length_nil] at e1 e2
    simp only [bne_iff_ne, ne_eq, List.size_toArray]
    omega
end K67

namespace K67
open PySem PySem.Spec PyProof.Rows L2 My StX
/-! ### where parcels are: mathematics -/
theorem mem_insI {p q : Int} {l : List Int} : q ∈ ins p l ↔ q ∈ l ∨ q = p := by
  unfold ins
  split
  · rename_i h
    exact ⟨.inl, fun z => z.elim id fun e => by rw [e]; exact h⟩
  · rw [List.mem_append, List.mem_singleton]
/-- parcel p was given to box i -/
def Home (giv : List (Option Nat)) (i : Nat) (p : Int) : Prop := ∃ j : Nat, p = (j : Int) + 1 ∧ giv[j]? = some (some i)
theorem Home.snoc {giv : List (Option Nat)} {o : Option Nat} {i : Nat} {p : Int} : Home (giv ++ [o]) i p ↔ Home giv i p ∨ (o = some i ∧ p = (giv.length : Int) + 1) := by
  constructor
  · rintro ⟨j, e, h⟩
    rw [List.getElem?_append] at h
    split at h
    · exact .inl ⟨j, e, h⟩
    · rename_i c
      have hj : j - giv.length = 0 := by
        cases hz : j - giv.length with
        | zero => rfl
        | succ n => rw [hz] at h; cases h
      rw [hj] at h
      have h2 : o = some i := Option.some.inj h
      exact .inr ⟨h2, by omega⟩
  · rintro (⟨j, e, h⟩ | ⟨e, h⟩)
    · refine ⟨j, e, ?_⟩
      have := (List.getElem?_eq_some_iff.mp h).1
      rw [List.getElem?_append_left this]
      exact h
    · refine ⟨giv.length, h, ?_⟩
      rw [List.getElem?_append_right (Nat.le_refl _), Nat.sub_self, e]
      rfl
theorem Home.uniq {giv : List (Option Nat)} {i k : Nat} {p : Int} (h : Home giv i p) (g : Home giv k p) : i = k := by
  obtain ⟨j, e, h⟩ := h
  obtain ⟨m, f, g⟩ := g
  have : j = m := by omega
  subst this
  rw [h] at g
  exact Option.some.inj (Option.some.inj g)
theorem Home.rng {giv : List (Option Nat)} {i : Nat} {p : Int} (h : Home giv i p) : 1 ≤ p ∧ p ≤ (giv.length : Int) := by
  obtain ⟨j, e, h⟩ := h
  have := (List.getElem?_eq_some_iff.mp h).1
  omega
theorem Home.of {W : WallS} {i : Nat} {p : Int} (h : Home W.cur.given i p) : homeOf W p = some i := by
  obtain ⟨j, e, h⟩ := h
  unfold homeOf
  rw [show (p - 1).toNat = j by omega, h]
  rfl
theorem Home.to {W : WallS} {i : Nat} {p : Int} (h : homeOf W p = some i) (h1 : 1 ≤ p) : Home W.cur.given i p := by
  unfold homeOf at h
  cases e : W.cur.given[(p - 1).toNat]? with
  | none => rw [e] at h; cases h
  | some o =>
    rw [e] at h
    have h2 : o = some i := h
    exact ⟨(p - 1).toNat, by omega, by rw [e, h2]⟩
/-- the last parcel that was given to box i -/
def LastOk (giv : List (Option Nat)) (i : Nat) : Option Int → Prop
  | none => ∀ p, ¬ Home giv i p
  | some q => Home giv i q ∧ ∀ p, Home giv i p → p ≤ q
structure BOk (giv : List (Option Nat)) (i : Nat) (lets had : List Int) (S : BoxS) : Prop where
  asc : S.inside.Pairwise (· < ·)
  ins : ∀ p ∈ S.inside, Home giv i p
  val : ∀ p ∈ S.valid, Home giv i p ∧ p ∈ lets
  last : LastOk giv i S.last
  out : ∀ p ∈ S.inside, p ∉ had
structure Mid (giv : List (Option Nat)) (i : Nat) (lets : List Int) (o : Option Int) (x : BoxS × ToldS) : Prop where
  last : x.1.last = o
  lok : LastOk giv i o
  val : ∀ p ∈ x.1.valid, Home giv i p ∧ (p ∈ lets ∨ p ∈ x.2.letters)
  lt : ∀ p ∈ x.2.letters, o = some p
section
variable {giv : List (Option Nat)} {i : Nat} {lets had : List Int} {o : Option Int} {x : BoxS × ToldS}
theorem Mid.act (h : Mid giv i lets o x) (a : Str) : Mid giv i lets o (K67.act x a) := by
  unfold K67.act
  split
  · unfold sendCode
    split
    · split
      · rename_i p e
        have ep : o = some p := h.last.symm.trans e
        have hp : Home giv i p := by
          have := h.lok
          rw [ep] at this
          exact this.1
        refine ⟨h.last, h.lok, fun q hq => ?_, fun q hq => ?_⟩
        · rcases mem_insI.mp hq with z | z
          · obtain ⟨z1, z2⟩ := h.val q z
            exact ⟨z1, z2.imp id fun z3 => List.mem_append_left _ z3⟩
          · rw [z]
            exact ⟨hp, .inr (List.mem_append_right _ (by simp))⟩
        · rcases List.mem_append.mp hq with z | z
          · exact h.lt q z
          · rw [List.mem_singleton.mp z]; exact ep
      · exact h
    · exact h
  · split
    · exact ⟨h.last, h.lok, fun q hq => (nomatch hq), h.lt⟩
    · split
      · exact ⟨h.last, h.lok, h.val, h.lt⟩
      · split <;> exact ⟨h.last, h.lok, h.val, h.lt⟩
theorem Mid.fold (r : RuleL) : ∀ {x : BoxS × ToldS}, Mid giv i lets o x → Mid giv i lets o (r.foldl K67.act x) := by
  induction r with
  | nil => exact fun h => h
  | cons a r ih => exact fun h => ih (h.act a)
theorem Mid.carry (h : Mid giv i lets o x) (r : RuleL) (m : Str) : Mid giv i lets o (K67.carry r m x) := Mid.fold r ⟨h.last, h.lok, h.val, h.lt⟩
theorem Mid.go (h : Mid giv i lets o x) {s : Bool} {m1 m2 : Str} {r1 r2 : RuleL} : Mid giv i lets o (goAway s m1 m2 r1 r2 x) := by
  unfold goAway
  split
  · split
    · exact Mid.carry (x := ({ x.1 with ajar := false }, x.2)) ⟨h.last, h.lok, h.val, h.lt⟩ _ _
    · exact h.carry _ _
  · exact h
theorem Mid.lay (h : Mid giv i lets o x) {p : Int} {l : Bool} : Mid giv i lets o (layIn p l x) := by
  unfold layIn
  split
  · exact ⟨h.last, h.lok, h.val, h.lt⟩
  · exact h
theorem Mid.take (h : Mid giv i lets o x) {p : Int} {t : Bool} : Mid giv i lets o (takeIf p t x) := by
  unfold takeIf
  split
  · exact ⟨h.last, h.lok, h.val, h.lt⟩
  · exact h
theorem Mid.addW (h : Mid giv i lets o x) {c : Bool} {wd : Str} : Mid giv i lets o (K67.addW c wd x) := by
  unfold K67.addW
  split
  · exact ⟨h.last, h.lok, h.val, h.lt⟩
  · exact h
end
/-! ### what a deed leaves: age, opened, got -/
theorem act_ageZ (x : BoxS × ToldS) (a : Str) : (act x a).1.age = x.1.age := by
  unfold K67.act
  split
  · unfold sendCode
    split
    · split <;> rfl
    · rfl
  · split
    · rfl
    · split
      · rfl
      · split <;> rfl
theorem fold_ageZ : ∀ (r : RuleL) (x : BoxS × ToldS), (r.foldl act x).1.age = x.1.age
  | [], x => rfl
  | a :: r, x => (fold_ageZ r (act x a)).trans (act_ageZ x a)
theorem carry_ageZ (r : RuleL) (m : Str) (x : BoxS × ToldS) : (carry r m x).1.age = x.1.age := fold_ageZ r _
theorem go_ageZ (s : Bool) (m1 m2 : Str) (r1 r2 : RuleL) (x : BoxS × ToldS) : (goAway s m1 m2 r1 r2 x).1.age = x.1.age := by
  unfold goAway
  split
  · split
    · exact carry_ageZ _ _ _
    · exact carry_ageZ _ _ _
  · rfl
theorem act_opdZ (x : BoxS × ToldS) (a : Str) : (act x a).2.opened = x.2.opened := by
  unfold K67.act
  split
  · unfold sendCode
    split
    · split <;> rfl
    · rfl
  · split
    · rfl
    · split
      · rfl
      · split <;> rfl
theorem fold_opdZ : ∀ (r : RuleL) (x : BoxS × ToldS), (r.foldl act x).2.opened = x.2.opened
  | [], x => rfl
  | a :: r, x => (fold_opdZ r (act x a)).trans (act_opdZ x a)
theorem carry_opdZ (r : RuleL) (m : Str) (x : BoxS × ToldS) : (carry r m x).2.opened = x.2.opened := fold_opdZ r _
theorem go_opdZ (s : Bool) (m1 m2 : Str) (r1 r2 : RuleL) (x : BoxS × ToldS) : (goAway s m1 m2 r1 r2 x).2.opened = x.2.opened := by
  unfold goAway
  split
  · split
    · exact carry_opdZ _ _ _
    · exact carry_opdZ _ _ _
  · rfl
/-- a bring to a free box -/
theorem bring_is {rs : List RuleL} {q : Int} {l s : Bool} {S : BoxS} (hf : S.tf = "free") : ((bringF rs q l s S).1.inside = S.inside ∨ (l = true ∧ (bringF rs q l s S).1.inside = S.inside ++ [q])) ∧ (bringF rs q l s S).1.age = some 0 := by
  unfold bringF
  rw [if_pos hf]
  rw [go_in, go_ageZ]
  unfold layIn
  split
  · rename_i c
    refine ⟨.inr ⟨c.1, ?_⟩, ?_⟩
    · show (carry (at_ rs 0) "given" ({ S with ajar := true, age := some 0, last := some q }, { T0 with opened := true })).1.inside ++ [q] = _
      rw [carry_in]
    · show (carry (at_ rs 0) "given" ({ S with ajar := true, age := some 0, last := some q }, { T0 with opened := true })).1.age = _
      rw [carry_ageZ]
  · exact ⟨.inl (by rw [carry_in]), by rw [carry_ageZ]⟩
theorem bring_mid {giv : List (Option Nat)} {i : Nat} {lets : List Int} {rs : List RuleL} {q : Int} {l s : Bool} {S : BoxS} (hf : S.tf = "free") (hl : LastOk giv i (some q)) (hv : ∀ p ∈ S.valid, Home giv i p ∧ p ∈ lets) : Mid giv i lets (some q) (bringF rs q l s S) := by
  unfold bringF
  rw [if_pos hf]
  exact (((Mid.carry (x := ({ S with ajar := true, age := some 0, last := some q }, { T0 with opened := true })) ⟨rfl, hl, fun p hp => ⟨(hv p hp).1, .inl (hv p hp).2⟩, fun p hp => by cases hp⟩ _ _).lay).go)
theorem code_mid {giv : List (Option Nat)} {i : Nat} {lets : List Int} {rs : List RuleL} {q : Int} {t s : Bool} {S : BoxS} (hl : LastOk giv i S.last) (hv : ∀ p ∈ S.valid, Home giv i p ∧ p ∈ lets) : Mid giv i lets S.last (codeF rs q t s S) := by
  unfold codeF
  split
  · exact ((((Mid.carry (x := ({ S with ajar := true }, { T0 with opened := true })) ⟨rfl, hl, fun p hp => ⟨(hv p hp).1, .inl (hv p hp).2⟩, fun p hp => by cases hp⟩ _ _).take).addW).go)
  · exact Mid.addW (x := (S, T0)) ⟨rfl, hl, fun p hp => ⟨(hv p hp).1, .inl (hv p hp).2⟩, fun p hp => by cases hp⟩
theorem day_mid {giv : List (Option Nat)} {i : Nat} {lets : List Int} {d : Int} {rs : List RuleL} {S : BoxS} (hl : LastOk giv i S.last) (hv : ∀ p ∈ S.valid, Home giv i p ∧ p ∈ lets) : Mid giv i lets S.last (dayF d rs S) := by
  have m0 : ∀ a, Mid giv i lets S.last ({ S with age := a }, T0) := fun a => ⟨rfl, hl, fun p hp => ⟨(hv p hp).1, .inl (hv p hp).2⟩, fun p hp => by cases hp⟩
  unfold dayF
  split
  · exact m0 S.age
  · split
    · exact (m0 _).carry _ _
    · exact m0 _
theorem power_mid {giv : List (Option Nat)} {i : Nat} {lets : List Int} {rs : List RuleL} {S : BoxS} (hl : LastOk giv i S.last) (hv : ∀ p ∈ S.valid, Home giv i p ∧ p ∈ lets) : Mid giv i lets S.last (powerF rs S) :=
  Mid.carry (x := (S, T0)) ⟨rfl, hl, fun p hp => ⟨(hv p hp).1, .inl (hv p hp).2⟩, fun p hp => by cases hp⟩ _ _
/-- a code that counts -/
theorem code_is {rs : List RuleL} {q : Int} {t s : Bool} {S : BoxS} (hv : q ∈ S.valid) : (codeF rs q t s S).2.opened = true ∧ (((codeF rs q t s S).2.got = [] ∧ (codeF rs q t s S).1.inside = S.inside) ∨ ((codeF rs q t s S).2.got = S.inside ∧ (codeF rs q t s S).1.inside = [])) := by
  unfold codeF
  rw [if_pos hv, go_opdZ, go_got, go_in]
  have e1 : ∀ (c : Bool) (wd : Str) (x : BoxS × ToldS), (addW c wd x).2.opened = x.2.opened ∧ (addW c wd x).2.got = x.2.got ∧ (addW c wd x).1.inside = x.1.inside := fun c wd x => by
    unfold addW
    split <;> exact ⟨rfl, rfl, rfl⟩
  rw [(e1 _ _ _).1, (e1 _ _ _).2.1, (e1 _ _ _).2.2]
  unfold takeIf
  split
  · refine ⟨?_, .inr ⟨?_, rfl⟩⟩
    · show (carry (at_ rs 3) "opened" ({ S with ajar := true }, { T0 with opened := true })).2.opened = true
      rw [carry_opdZ]
    · show (carry (at_ rs 3) "opened" ({ S with ajar := true }, { T0 with opened := true })).1.inside = _
      rw [carry_in]
  · exact ⟨by rw [carry_opdZ], .inl ⟨by rw [carry_got]; rfl, by rw [carry_in]⟩⟩
theorem code_not {rs : List RuleL} {q : Int} {t s : Bool} {S : BoxS} (hv : q ∉ S.valid) : (codeF rs q t s S).1 = S ∧ (codeF rs q t s S).2.letters = [] ∧ (codeF rs q t s S).2.opened = false ∧ (codeF rs q t s S).2.got = [] := by
  unfold codeF
  rw [if_neg hv]
  unfold addW
  split <;> exact ⟨rfl, rfl, rfl, rfl⟩
theorem day_is {d : Int} {rs : List RuleL} {S : BoxS} : (dayF d rs S).1.inside = S.inside ∧ (dayF d rs S).1.age = S.age.map (· + 1) := by
  unfold dayF
  split
  · rename_i e
    exact ⟨rfl, by rw [e]; rfl⟩
  · rename_i a e
    split
    · rw [carry_in, carry_ageZ, e]
      exact ⟨rfl, rfl⟩
    · rw [e]
      exact ⟨rfl, rfl⟩
theorem power_is {rs : List RuleL} {S : BoxS} : (powerF rs S).1.inside = S.inside ∧ (powerF rs S).1.age = S.age := by
  unfold powerF
  rw [carry_in, carry_ageZ]
  exact ⟨rfl, rfl⟩
theorem pass_is {S : BoxS} : (passBy S).2.got = (if S.ajar = true then S.inside else []) ∧ (passBy S).1.inside = (if S.ajar = true then [] else S.inside) ∧ (passBy S).1.valid = S.valid ∧ (passBy S).1.last = S.last := by
  unfold passBy
  split <;> exact ⟨rfl, rfl, rfl, rfl⟩
end K67

namespace K67
open PySem PySem.Spec PyProof.Rows L2 My StX
/-! ### where parcels are: the wall -/
structure Inv67 (W : WallS) (lets had : List Int) : Prop where
  gok : GivOk W
  box : ∀ i S, W.cur.boxes[i]? = some S → BOk W.cur.given i lets had S
  hr : ∀ p ∈ had, p ≤ (W.cur.given.length : Int)
def letC (W : WallS) : Call → List Int
  | .bring size l s => (bringW W size l s).2.2
  | .code p t s => (codeW W p t s).2.letters
  | .pass _ => []
  | .day => (tickW (dayF W.cur.d W.cur.rs) W).2
  | .power => (tickW (powerF W.cur.rs) W).2
def gotC (W : WallS) : Call → List Int
  | .code p t s => (codeW W p t s).2.got
  | .pass i => (passW W i).2.got
  | _ => []
theorem LastOk.give {giv : List (Option Nat)} {i : Nat} {o : Option Nat} {a : Option Int} (ho : o ≠ some i) (h : LastOk giv i a) : LastOk (giv ++ [o]) i a := by
  cases a with
  | none => exact fun p hp => h p ((Home.snoc.mp hp).elim id fun z => absurd z.1 ho)
  | some q => exact ⟨Home.snoc.mpr (.inl h.1), fun p hp => h.2 p ((Home.snoc.mp hp).elim id fun z => absurd z.1 ho)⟩
theorem BOk.give {giv : List (Option Nat)} {i : Nat} {o : Option Nat} {lets had : List Int} {S : BoxS} (ho : o ≠ some i) (h : BOk giv i lets had S) : BOk (giv ++ [o]) i lets had S :=
  ⟨h.asc, fun p hp => Home.snoc.mpr (.inl (h.ins p hp)), fun p hp => ⟨Home.snoc.mpr (.inl (h.val p hp).1), (h.val p hp).2⟩, h.last.give ho, h.out⟩
theorem BOk.more {giv : List (Option Nat)} {i : Nat} {lets had l g : List Int} {S : BoxS} (h : BOk giv i lets had S) (hg : ∀ p ∈ g, ¬ Home giv i p) : BOk giv i (lets ++ l) (had ++ g) S :=
  ⟨h.asc, h.ins, fun p hp => ⟨(h.val p hp).1, List.mem_append_left _ (h.val p hp).2⟩, h.last, fun p hp z => (List.mem_append.mp z).elim (h.out p hp) fun z2 => hg p z2 (h.ins p hp)⟩
theorem BOk.deed {giv : List (Option Nat)} {i : Nat} {lets had l g : List Int} {S : BoxS} {x : BoxS × ToldS} {o : Option Int} (h : BOk giv i lets had S) (m : Mid giv i lets o x) (hin : x.1.inside = S.inside ∨ x.1.inside = []) (hl : ∀ p ∈ x.2.letters, p ∈ l) (hg : ∀ p ∈ x.1.inside, p ∉ g) : BOk giv i (lets ++ l) (had ++ g) x.1 := by
  have sub : ∀ p ∈ x.1.inside, p ∈ S.inside := fun p hp => by
    rcases hin with e | e
    · rw [e] at hp; exact hp
    · rw [e] at hp; cases hp
  refine ⟨?_, fun p hp => h.ins p (sub p hp), fun p hp => ⟨(m.val p hp).1, List.mem_append.mpr ((m.val p hp).2.imp id (hl p))⟩, by rw [m.last]; exact m.lok, fun p hp z => (List.mem_append.mp z).elim (h.out p (sub p hp)) (hg p hp)⟩
  rcases hin with e | e
  · rw [e]; exact h.asc
  · rw [e]; exact .nil
theorem set_get {α : Type} {l : List α} {i k : Nat} {a b : α} (h : (l.set i a)[k]? = some b) : (k = i ∧ b = a) ∨ (k ≠ i ∧ l[k]? = some b) := by
  by_cases e : k = i
  · refine .inl ⟨e, ?_⟩
    rw [e, List.getElem?_set_self'] at h
    cases hz : l[i]? with
    | none => rw [hz] at h; cases h
    | some z => rw [hz] at h; exact (Option.some.inj h).symm
  · exact .inr ⟨e, by rw [List.getElem?_set_ne (fun z => e z.symm)] at h; exact h⟩
theorem boxOf_some {W : WallS} {i : Nat} {S : BoxS} (h : W.cur.boxes[i]? = some S) : boxOf W i = S := by
  have := boxOf_get (List.getElem?_eq_some_iff.mp h).1
  rw [h] at this
  exact (Option.some.inj this).symm
theorem bring_putW {W : WallS} {size : Int} {l s : Bool} {i : Nat} (hp : placeF W.sizes W.cur.boxes size = some i) : bringW W size l s = (setBox (giveW (remW W) (some i)) i (bringF W.cur.rs ((W.cur.given.length : Int) + 1) l s (boxOf W i)).1, some i, (bringF W.cur.rs ((W.cur.given.length : Int) + 1) l s (boxOf W i)).2.letters) := by
  unfold bringW
  rw [hp]
theorem bring_noW {W : WallS} {size : Int} {l s : Bool} (hp : placeF W.sizes W.cur.boxes size = none) : bringW W size l s = (giveW (remW W) none, none, []) := by
  unfold bringW
  rw [hp]
theorem place_free {W : WallS} {size : Int} {i : Nat} (hp : placeF W.sizes W.cur.boxes size = some i) : (boxOf W i).tf = "free" ∧ size ≤ W.sizes.getD i 0 ∧ i < W.cur.boxes.length := by
  obtain ⟨hi, hf⟩ := placeF_lt hp
  unfold fitsB at hf
  obtain ⟨h1, h2⟩ := Bool.and_eq_true_iff.mp hf
  have h3 := of_decide_eq_true h1
  rw [boxOf_get hi] at h3
  exact ⟨Option.some.inj h3, of_decide_eq_true h2, hi⟩
theorem code_putW {W : WallS} {p : Int} {t s : Bool} {i : Nat} (hp : homeOf W p = some i) : codeW W p t s = (setBox (remW W) i (codeF W.cur.rs p t s (boxOf W i)).1, (codeF W.cur.rs p t s (boxOf W i)).2) := by
  unfold codeW
  rw [hp]
theorem code_noW {W : WallS} {p : Int} {t s : Bool} (hp : homeOf W p = none) : codeW W p t s = (remW W, T0) := by
  unfold codeW
  rw [hp]
theorem code_gi {rs : List RuleL} {q : Int} {t s : Bool} {S : BoxS} : ((codeF rs q t s S).2.got = [] ∧ (codeF rs q t s S).1.inside = S.inside) ∨ ((codeF rs q t s S).2.got = S.inside ∧ (codeF rs q t s S).1.inside = []) := by
  by_cases h : q ∈ S.valid
  · exact (code_is h).2
  · obtain ⟨e1, _, _, e2⟩ := code_not (rs := rs) (t := t) (s := s) h
    exact .inl ⟨e2, by rw [e1]⟩
/-- only what one box held is had now -/
theorem Inv67.got {W : WallS} {lets had : List Int} {c : Call} (h : Inv67 W lets had) (ok : CallOk W c) : gotC W c = [] ∨ ∃ (i : Nat) (S : BoxS), W.cur.boxes[i]? = some S ∧ gotC W c = S.inside := by
  cases c with
  | bring size l s => exact .inl rfl
  | day => exact .inl rfl
  | power => exact .inl rfl
  | pass i =>
    show (passW W i).2.got = [] ∨ _
    unfold passW
    rw [pass_is.1]
    split
    · exact .inr ⟨i, boxOf W i, boxOf_get ok, by show (passW W i).2.got = _; unfold passW; rw [pass_is.1, if_pos (by assumption)]⟩
    · exact .inl rfl
  | code p t s =>
    cases hp : homeOf W p with
    | none => exact .inl (by show (codeW W p t s).2.got = []; rw [code_noW hp]; rfl)
    | some i =>
      have hi : i < W.cur.boxes.length := by
        obtain ⟨j, _, e⟩ := Home.to hp ok.1
        exact h.gok i (List.mem_of_getElem? e)
      have e : gotC W (.code p t s) = (codeF W.cur.rs p t s (boxOf W i)).2.got := by show (codeW W p t s).2.got = _; rw [code_putW hp]
      rw [e]
      rcases code_gi (rs := W.cur.rs) (q := p) (t := t) (s := s) (S := boxOf W i) with ⟨z, _⟩ | ⟨z, _⟩
      · exact .inl z
      · exact .inr ⟨i, _, boxOf_get hi, z⟩
theorem Inv67.new {W : WallS} {lets had : List Int} {c : Call} (h : Inv67 W lets had) (ok : CallOk W c) : ∀ p ∈ gotC W c, p ∉ had := fun p hp => by
  rcases h.got ok with e | ⟨i, S, hS, e⟩
  · rw [e] at hp; cases hp
  · rw [e] at hp
    exact (h.box i S hS).out p hp
theorem flat_mem {α : Type} {f : α → List Int} {l : List α} {i : Nat} {a : α} (h : l[i]? = some a) : ∀ p ∈ f a, p ∈ l.flatMap f := fun p hp => List.mem_flatMap.mpr ⟨a, List.mem_of_getElem? h, hp⟩
theorem Inv67.call {W : WallS} {lets had : List Int} {c : Call} (h : Inv67 W lets had) (ok : CallOk W c) : Inv67 (callW W c).1 (lets ++ letC W c) (had ++ gotC W c) := by
  have st := call_step h.gok ok
  refine ⟨st.gok h.gok, ?_, fun p hp => ?_⟩
  · cases c with
    | bring size l s =>
      show ∀ i S, (bringW W size l s).1.cur.boxes[i]? = some S → BOk (bringW W size l s).1.cur.given i (lets ++ (bringW W size l s).2.2) (had ++ []) S
      cases hp : placeF W.sizes W.cur.boxes size with
      | none =>
        rw [bring_noW hp]
        intro i S hS
        exact ((h.box i S hS).give (by simp)).more (fun p z => by cases z)
      | some i =>
        obtain ⟨hf, _, hi⟩ := place_free hp
        rw [bring_putW hp]
        intro k S hS
        have hb := h.box i _ (boxOf_get hi)
        rcases set_get hS with ⟨rfl, rfl⟩ | ⟨ne, hS⟩
        · show BOk (W.cur.given ++ [some k]) k _ _ _
          have hq : Home (W.cur.given ++ [some k]) k ((W.cur.given.length : Int) + 1) := Home.snoc.mpr (.inr ⟨rfl, rfl⟩)
          have hl : LastOk (W.cur.given ++ [some k]) k (some ((W.cur.given.length : Int) + 1)) := ⟨hq, fun p z => by
            rcases Home.snoc.mp z with z | z
            · have := z.rng; omega
            · omega⟩
          have m := bring_mid (lets := lets) (rs := W.cur.rs) (l := l) (s := s) hf hl (fun p z => ⟨Home.snoc.mpr (.inl (hb.val p z).1), (hb.val p z).2⟩)
          have hin := (bring_is (rs := W.cur.rs) (q := (W.cur.given.length : Int) + 1) (l := l) (s := s) hf).1
          have sub : ∀ p ∈ (bringF W.cur.rs ((W.cur.given.length : Int) + 1) l s (boxOf W k)).1.inside, p ∈ (boxOf W k).inside ∨ p = (W.cur.given.length : Int) + 1 := fun p z => bring_in z
          refine ⟨?_, fun p z => ?_, fun p z => ⟨(m.val p z).1, List.mem_append.mpr (m.val p z).2⟩, by rw [m.last]; exact m.lok, fun p z w => ?_⟩
          · rcases hin with e | ⟨_, e⟩
            · rw [e]; exact hb.asc
            · rw [e]
              refine List.pairwise_append.mpr ⟨hb.asc, List.pairwise_singleton _ _, fun a ha b hb2 => ?_⟩
              rw [List.mem_singleton.mp hb2]
              have := (hb.ins a ha).rng
              omega
          · rcases sub p z with z | z
            · exact Home.snoc.mpr (.inl (hb.ins p z))
            · rw [z]; exact hq
          · have w2 : p ∈ had := by rw [List.append_nil] at w; exact w
            rcases sub p z with z | z
            · exact hb.out p z w2
            · have := h.hr p w2
              omega
        · exact ((h.box k S hS).give (fun z => ne (Option.some.inj z).symm)).more (fun p z => by cases z)
    | code p t s =>
      show ∀ i S, (codeW W p t s).1.cur.boxes[i]? = some S → BOk (codeW W p t s).1.cur.given i (lets ++ (codeW W p t s).2.letters) (had ++ (codeW W p t s).2.got) S
      cases hp : homeOf W p with
      | none =>
        rw [code_noW hp]
        intro i S hS
        exact (h.box i S hS).more (fun p z => by cases z)
      | some i =>
        have hi : i < W.cur.boxes.length := by
          obtain ⟨j, _, e⟩ := Home.to hp ok.1
          exact h.gok i (List.mem_of_getElem? e)
        rw [code_putW hp]
        intro k S hS
        have hb := h.box i _ (boxOf_get hi)
        have gi := code_gi (rs := W.cur.rs) (q := p) (t := t) (s := s) (S := boxOf W i)
        rcases set_get hS with ⟨rfl, rfl⟩ | ⟨ne, hS⟩
        · refine hb.deed (code_mid hb.last hb.val) (gi.imp (fun z => z.2) (fun z => z.2)) (fun q z => z) (fun q z => ?_)
          rcases gi with ⟨e, _⟩ | ⟨_, e⟩
          · rw [e]; simp
          · rw [e] at z; cases z
        · refine (h.box k S hS).more (fun q z w => ?_)
          rcases gi with ⟨e, _⟩ | ⟨e, _⟩
          · have z2 : q ∈ (codeF W.cur.rs p t s (boxOf W i)).2.got := z
            rw [e] at z2; cases z2
          · have z2 : q ∈ (codeF W.cur.rs p t s (boxOf W i)).2.got := z
            rw [e] at z2
            exact ne ((hb.ins q z2).uniq w).symm
    | pass i =>
      show ∀ k S, (passW W i).1.cur.boxes[k]? = some S → BOk W.cur.given k (lets ++ []) (had ++ (passW W i).2.got) S
      intro k S hS
      have hb := h.box i _ (boxOf_get ok)
      obtain ⟨e1, e2, e3, e4⟩ := pass_is (S := boxOf W i)
      rcases set_get (show (W.cur.boxes.set i (passBy (boxOf W i)).1)[k]? = some S from hS) with ⟨rfl, rfl⟩ | ⟨ne, hS⟩
      · have m : Mid W.cur.given k lets (boxOf W k).last ((passBy (boxOf W k)).1, T0) := ⟨e4, hb.last, fun p z => ⟨(hb.val p (by rw [← e3]; exact z)).1, .inl (hb.val p (by rw [← e3]; exact z)).2⟩, fun p z => by cases z⟩
        refine hb.deed (x := ((passBy (boxOf W k)).1, T0)) m ?_ (fun q z => by cases z) (fun q z => ?_)
        · show (passBy (boxOf W k)).1.inside = _ ∨ (passBy (boxOf W k)).1.inside = _
          rw [e2]
          split
          · exact .inr rfl
          · exact .inl rfl
        · have z2 : q ∈ (passBy (boxOf W k)).1.inside := z
          show q ∉ (passBy (boxOf W k)).2.got
          rw [e2] at z2
          rw [e1]
          split at z2
          · cases z2
          · rename_i c
            rw [if_neg c]
            simp
      · refine (h.box k S hS).more (fun q z w => ?_)
        have z2 : q ∈ (passBy (boxOf W i)).2.got := z
        rw [e1] at z2
        split at z2
        · exact ne ((hb.ins q z2).uniq w).symm
        · cases z2
    | day =>
      intro k S2 hS
      obtain ⟨S, hS0, rfl⟩ := map_get (show (W.cur.boxes.map fun S => (dayF W.cur.d W.cur.rs S).1)[k]? = some S2 from hS)
      have hb := h.box k S hS0
      exact hb.deed (x := dayF W.cur.d W.cur.rs S) (day_mid hb.last hb.val) (.inl day_is.1) (flat_mem (f := fun S => (dayF W.cur.d W.cur.rs S).2.letters) hS0) (fun q z => by simp [gotC])
    | power =>
      intro k S2 hS
      obtain ⟨S, hS0, rfl⟩ := map_get (show (W.cur.boxes.map fun S => (powerF W.cur.rs S).1)[k]? = some S2 from hS)
      have hb := h.box k S hS0
      exact hb.deed (x := powerF W.cur.rs S) (power_mid hb.last hb.val) (.inl power_is.1) (flat_mem (f := fun S => (powerF W.cur.rs S).2.letters) hS0) (fun q z => by simp [gotC])
  · obtain ⟨l, _, e, _⟩ := st.giv
    rw [e, List.length_append]
    rcases List.mem_append.mp hp with z | z
    · have := h.hr p z
      omega
    · rcases h.got ok with e | ⟨i, S, hS, e⟩
      · rw [e] at z; cases z
      · rw [e] at z
        have := ((h.box i S hS).ins p z).rng
        omega
theorem Inv67.change {W : WallS} {lets had : List Int} {d : Int} {rs : List RuleL} (h : Inv67 W lets had) : Inv67 (changeW W d rs) lets had := ⟨h.gok, h.box, h.hr⟩
/-- no parcel lies twice -/
theorem Inv67.nodup {W : WallS} {lets had : List Int} (h : Inv67 W lets had) : ∀ n, n ≤ W.cur.boxes.length → (lyL W n).Nodup ∧ ∀ p ∈ lyL W n, ∃ i, i < n ∧ Home W.cur.given i p
  | 0, _ => ⟨List.nodup_nil, fun p hp => by cases hp⟩
  | n + 1, hn => by
    obtain ⟨h1, h2⟩ := h.nodup n (by omega)
    have hS : W.cur.boxes[n]? = some W.cur.boxes[n] := List.getElem?_eq_getElem (by omega)
    have hb := h.box n _ hS
    rw [lyL_succ hS]
    refine ⟨List.nodup_append.mpr ⟨h1, hb.asc.imp (fun z e => by omega), fun a ha b hb2 e => ?_⟩, fun p hp => ?_⟩
    · obtain ⟨i, hi, hh⟩ := h2 a ha
      have := hh.uniq (e ▸ hb.ins b hb2)
      omega
    · rcases List.mem_append.mp hp with z | z
      · obtain ⟨i, hi, hh⟩ := h2 p z
        exact ⟨i, by omega, hh⟩
      · exact ⟨n, by omega, hb.ins p z⟩
theorem Inv67.lie {W : WallS} {lets had : List Int} (h : Inv67 W lets had) : ∀ p ∈ lyL W W.cur.boxes.length, p ∉ had := fun p hp => by
  obtain ⟨S, hS, hp⟩ := lyL_in.mp hp
  obtain ⟨i, hi⟩ := List.getElem?_of_mem hS
  exact (h.box i S hi).out p hp
end K67

namespace K67
open PySem PySem.Spec PyProof.Rows L2 My StX
section
variable {P : Program} {w : World} {K : PySem.W.Frag} {mg : Str → Option Value} {base : Heap}
def sp_law_seen (K : PySem.W.Frag) : Sp := fun vs H Q _ => ∃ (x pl : Addr) (as : List Addr) (W : WallS) (m : Nat), vs = [.ref x] ∧ WallAt K as H x pl W ∧ (∀ a ∈ as, H a ≠ none) ∧ WSm W m ∧ m ≤ 50000 ∧ ∀ H' a, Same H H' → H a = none → AhAt as H' a W.cur.boxes → Q (.ref a) H'
set_option maxHeartbeats 2000000 in
theorem ok_law_seen (T : Txt w K mg) {fd : FuncData} (F : FunD K d_law_seen.name d_law_seen.qual d_law_seen.params d_law_seen.body d_law_seen.scope (d_law_seen.dvs K) (d_law_seen.kws K) (He.fAd K d_law_seen.at_) fd) : FnOk P w K mg base C8.CX0 4 (He.fAd K d_law_seen.at_) fd ["wall"] (sp_law_seen K) := by
  have c_Wall__len__ := c_Wall__len__ (P := P) (w := w) (base := base) T
  have c_Wall_box := c_Wall_box (P := P) (w := w) (base := base) T
  refine F.ok sc_law_seen (fun vs H Q E h => ?_) (fun cdv A outer s H vs Q E hr h => ?_)
  · obtain ⟨x, pl, as, W, m, rfl, _⟩ := h
    rfl
  · have hu := L2.hu_of hr
    obtain ⟨x, pl, as, W, m, rfl, hW, live, sm, hm, q⟩ := h
    refine ⟨_, (PSs.nox ((pss_one (ps_ret (pe_lc (own := [("at", 1)]) (g := (gName 1)) (tt := tYes) (by rfl) sc_law_seen.nd (pi_range1 (by rfl) T.range (pa_cons (pe_callB (My.len_own c_Wall__len__ hr (by decide)) (by rfl) T.len (by decide +kernel) (pa_cons (pv 0) pa_nil)) pa_nil)) (blkOk_by (N := N_law_seen) (sc := defScope s_law_seen) (by decide +kernel)) (fun _ _ _ _ _ => (pg_name (i := 1) sc_law_seen.nd rfl (by first | exact Or.inl rfl | exact Or.inr rfl))) (fun _ _ _ _ _ => pts_nil) (fun _ _ _ _ _ => (C8.pe_mt c_Wall_box hr (by decide) (pv 0) (pa_cons (pv 1) pa_nil)))))))), ?_⟩
    obtain ⟨dx0, _, _, _, _, _, hx0, _⟩ := id hW
    have h12 := sm.b12
    have elen := sm.len
    refine ⟨_, rfl, x, dx0, _, rfl, hx0, x, pl, as, W, rfl, hW, ((W.sizes.length : Nat) : Int), rfl, by omega, by omega, ((W.sizes.length : Nat) : Int), rfl, by omega, by omega, fun D hD => ?_⟩
    refine lc_range (lo := 0) (n := ((W.sizes.length : Nat) : Int).toNat) (fun i H' => Same H H' ∧ ∃ qs : List Addr, qs.length = i ∧ H' D = some (.lst (qs.map V.ref)) ∧ Paired (StdOut (D :: as) H') qs (W.cur.boxes.take i)) ⟨same_new hD, [], rfl, upd_same, .nil⟩ ?_ ?_
    · rintro i H4 hi ⟨s4, qs, hrl, hD4, hprs⟩
      have hi2 : i < W.cur.boxes.length := by omega
      have e0 : (0 : Int) + (i : Int) = (i : Int) := by omega
      rw [e0]
      have hbi : W.cur.boxes[i]? = some W.cur.boxes[i] := List.getElem?_eq_getElem hi2
      have eS : boxOf W i = W.cur.boxes[i] := Option.some.inj ((boxOf_get hi2).symm.trans hbi)
      have hv : (W.cur.boxes[i]).valid.length ≤ _ := (sm.bd _ (List.mem_of_getElem? hbi)).v
      refine ⟨rfl, ?_⟩
      refine ⟨_, rfl, x, dx0, _, rfl, s4 _ _ hx0, rfl, _, rfl, x, pl, as, _, i, rfl, hW.same s4, hi2, by rw [eS]; omega, fun H5 q ys s5 hStd => ?_⟩
      rw [eS] at hStd
      have hD5 := s5 _ _ hD4
      have lv4 : ∀ a ∈ D :: as, H4 a ≠ none := fun a ha z => by
        rcases List.mem_cons.mp ha with e | e
        · rw [e, hD4] at z; cases z
        · exact live a e (s4.free z)
      have bD : But [D] H5 (upd H5 D (.lst (qs.map V.ref ++ [V.ref q]))) := (But.refl _ _).put (.inr (by simp))
      have mD : ∀ c ∈ [D], Mut (D :: as) H5 c := fun c hc => .inl (by rw [List.mem_singleton.mp hc]; exact ⟨by simp, _, hD5⟩)
      refine ⟨_, hD5, by rw [List.length_map, hrl]; exact lt_line (by omega), same_upd (s4.trans s5) hD, qs ++ [q], by rw [List.length_append, hrl]; rfl, by rw [upd_same, List.map_append]; rfl, ?_⟩
      rw [take_more hbi]
      exact paired_app (paired_map (fun _ _ _ x => (StdOut.same s5 x).mut mD bD) hprs) (.cons ((hStd.out lv4).mut mD bD) .nil)
    rintro H2 ⟨s2, qs, hrl, hDq, hprs⟩
    rw [Int.toNat_natCast, elen, List.take_length] at hprs
    refine q _ _ s2 hD ⟨qs, hDq, fun z => live D z hD, paired_map (fun _ _ _ x => ?_) hprs⟩
    obtain ⟨l1, l2, ys, h1, h2, h3, h4, h5, h6, h7⟩ := x
    exact ⟨l1, l2, ys, h1, h2, h3, h4, h5, fun z => h6 (List.mem_cons_of_mem _ z), fun z => h7 (List.mem_cons_of_mem _ z)⟩
theorem c_law_seen (T : Txt w K mg) : C8.Cal P w K mg base 4 "_law_seen" (sp_law_seen K) [] := by
  obtain ⟨fd, F⟩ := T.f_law_seen
  exact ⟨_, fd, _, _, ok_law_seen T F, T.g_law_seen, F.kp, F.bindsN (fun _ _ _ _ _ _ us hl => match us, hl with | [_], _ => rfl), .nil⟩
end
end K67

namespace K67
open PySem PySem.Spec PyProof.Rows L2 My StX
theorem dp_intsZ {K : PySem.W.Frag} {H : Hp} {a : Addr} {l : List Int} (h : H a = some (.lst (l.map V.int))) : Dp K H (.ref a) (.list (l.map PyData.int)) := .lst (SqL.of h) (dp_flatInts K H l)
theorem at_home {giv : List (Option Nat)} {i : Nat} {p : Int} (h : Home giv i p) : atI (giv.map giV) (p - 1) = some (.int (i : Int)) := by
  obtain ⟨j, e, h⟩ := h
  rw [show p - 1 = (j : Int) by omega]
  exact atI_nat (by rw [List.getElem?_map, h]; rfl)
theorem nodup_len : ∀ (g : Nat) (l : List Int), l.Nodup → (∀ p ∈ l, 1 ≤ p ∧ p ≤ (g : Int)) → l.length ≤ g
  | 0, [], _, _ => Nat.le_refl _
  | 0, a :: l, _, h => by
    have := h a (by simp)
    omega
  | g + 1, l, nd, h => by
    have h1 := nodup_len g (l.erase ((g : Int) + 1)) (nd.erase _) (fun p hp => by
      obtain ⟨n, hp⟩ := nd.mem_erase_iff.mp hp
      have := h p hp
      omega)
    rw [List.length_erase] at h1
    split at h1 <;> omega
theorem lyL_len {W : WallS} {m : Nat} (sm : WSm W m) : ∀ i, i ≤ W.cur.boxes.length → (lyL W i).length ≤ m * i
  | 0, _ => Nat.zero_le _
  | i + 1, hi => by
    have hS : W.cur.boxes[i]? = some W.cur.boxes[i] := List.getElem?_eq_getElem (by omega)
    rw [lyL_succ hS, List.length_append, Nat.mul_succ]
    have h1 := lyL_len sm i (by omega)
    have h2 : (W.cur.boxes[i]).inside.length ≤ m := (sm.bd _ (List.mem_of_getElem? hS)).i
    omega
section
variable {P : Program} {w : World} {K : PySem.W.Frag} {mg : Str → Option Value} {base : Heap}
def sp_law_stands (K : PySem.W.Frag) : Sp := fun vs H Q _ => ∃ (x pl hm hd lt : Addr) (as : List Addr) (W : WallS) (m : Nat) (lets had : List Int), vs = [.ref x, .ref hm, .ref hd, .ref lt] ∧ WallAt K as H x pl W ∧ (∀ a ∈ as, H a ≠ none) ∧ WSm W m ∧ m ≤ 50000 ∧ W.cur.given.length ≤ 3000 ∧ InsOk W ∧ Inv67 W lets had ∧
  H hm = some (.lst (W.cur.given.map giV)) ∧ H hd = some (.lst (had.map V.int)) ∧ H lt = some (.lst (lets.map V.int)) ∧ ∀ H', Same H H' → Q (.bl true) H'
set_option maxHeartbeats 2000000 in
theorem ok_law_stands (T : Txt w K mg) {fd : FuncData} (F : FunD K d_law_stands.name d_law_stands.qual d_law_stands.params d_law_stands.body d_law_stands.scope (d_law_stands.dvs K) (d_law_stands.kws K) (He.fAd K d_law_stands.at_) fd) : FnOk P w K mg base C8.CX0 5 (He.fAd K d_law_stands.at_) fd ["wall", "homes", "had", "letters"] (sp_law_stands K) := by
  have c_Wall_parcels := c_Wall_parcels (P := P) (w := w) (base := base) T
  have c_Wall__contains__ := c_Wall__contains__ (P := P) (w := w) (base := base) T
  have c_Wall_lying := c_Wall_lying (P := P) (w := w) (base := base) T
  have c_law_seen := c_law_seen (P := P) (w := w) (base := base) T
  refine F.ok sc_law_stands (fun vs H Q E h => ?_) (fun cdv A outer s H vs Q E hr h => ?_)
  · obtain ⟨x, pl, hm, hd, lt, as, W, m, lets, had, rfl, _⟩ := h
    rfl
  · have hu := L2.hu_of hr
    obtain ⟨x, pl, hm, hd, lt, as, W, m, lets, had, rfl, hW, live, sm, hm5, h3000, iok, inv, hhm, hhd, hlt, q⟩ := h
    refine ⟨_, (PSs.nox ((pss_cons (ps_par (i := 4) (j := 5) (by rfl) sc_law_stands.nd rfl rfl (by decide) rfl rfl (pa_cons (C8.pe_c c_law_seen hr (by decide) rfl (pa_cons (pv 0) pa_nil)) (pa_cons (pe_lst pa_nil) pa_nil)) (by rfl))
  (pss_cons (ps_for PassesOwn.never rfl (pi_range1 (by rfl) T.range (pa_cons (pe_callB (My.len_seqK (K := K) rfl) (by rfl) T.len (by decide +kernel) (pa_cons (pv 4) pa_nil)) pa_nil)) (pg_name (i := 6) sc_law_stands.nd rfl (by first | exact Or.inl rfl | exact Or.inr rfl))
  (pss_cons (ps_if (PW.pt (pw_or (pt_cmpR (My.neDK (K := K) rfl hr.units) (pe_ix (My.ix_tupK (K := K) rfl) (pe_ix (My.ix_listK (K := K) rfl) (pv 4) (pv 6) (fun _ _ => rfl)) pe_int (fun _ _ => rfl)) (pe_callB (My.sortedIK (K := K) rfl) (by rfl) T.sorted (by decide +kernel) (pa_cons (pe_ix (My.ix_tupK (K := K) rfl) (pe_ix (My.ix_listK (K := K) rfl) (pv 4) (pv 6) (fun _ _ => rfl)) pe_int (fun _ _ => rfl)) pa_nil)) (nomark _)) (pw_or1 (pt_cmpR (My.neDK (K := K) rfl hr.units) (pe_ix (My.ix_tupK (K := K) rfl) (pe_ix (My.ix_listK (K := K) rfl) (pv 4) (pv 6) (fun _ _ => rfl)) pe_int (fun _ _ => rfl)) (pe_callB (My.sortedIK (K := K) rfl) (by rfl) T.sorted (by decide +kernel) (pa_cons (pe_ix (My.ix_tupK (K := K) rfl) (pe_ix (My.ix_listK (K := K) rfl) (pv 4) (pv 6) (fun _ _ => rfl)) pe_int (fun _ _ => rfl)) pa_nil)) (nomark _)))))
  (pss_one (ps_ret pe_bl))
  pss_nil)
  (pss_cons (ps_if (pt_cmpR (My.neDK (K := K) rfl hr.units) (pe_lc (own := [("one", 7)]) (g := (gName 7)) (by rfl) sc_law_stands.nd (My.pi_listK (K := K) rfl (pe_op op_cat (pe_ix (My.ix_tupK (K := K) rfl) (pe_ix (My.ix_listK (K := K) rfl) (pv 4) (pv 6) (fun _ _ => rfl)) pe_int (fun _ _ => rfl)) (pe_ix (My.ix_tupK (K := K) rfl) (pe_ix (My.ix_listK (K := K) rfl) (pv 4) (pv 6) (fun _ _ => rfl)) pe_int (fun _ _ => rfl)))) (blkOk_by (N := N_law_stands) (sc := defScope s_law_stands) (by decide +kernel)) (fun _ _ _ _ _ => (pg_name (i := 7) sc_law_stands.nd rfl (by first | exact Or.inl rfl | exact Or.inr rfl))) (fun _ _ _ _ _ => (pts_one (pt_cmpR op_ne (pe_ix (My.ix_listK (K := K) rfl) (pv 1) (pe_op op_sub (pv 7) pe_int) (fun _ _ => rfl)) (pv 6) (nomark _)))) (fun _ _ _ _ _ => (pv 7))) (pe_lst pa_nil) (nomark _))
  (pss_one (ps_ret pe_bl))
  pss_nil)
  (pss_cons (ps_if (pt_cmpR (My.neDK (K := K) rfl hr.units) (pe_lc (own := [("one", 7)]) (g := (gName 7)) (by rfl) sc_law_stands.nd (My.pi_listK (K := K) rfl (pe_ix (My.ix_tupK (K := K) rfl) (pe_ix (My.ix_listK (K := K) rfl) (pv 4) (pv 6) (fun _ _ => rfl)) pe_int (fun _ _ => rfl))) (blkOk_by (N := N_law_stands) (sc := defScope s_law_stands) (by decide +kernel)) (fun _ _ _ _ _ => (pg_name (i := 7) sc_law_stands.nd rfl (by first | exact Or.inl rfl | exact Or.inr rfl))) (fun _ _ _ _ _ => (pts_one (pt_cmpR (My.notIn_seqK (K := K) rfl) (pv 7) (pv 3) (by rfl)))) (fun _ _ _ _ _ => (pv 7))) (pe_lst pa_nil) (nomark _))
  (pss_one (ps_ret pe_bl))
  pss_nil)
  (pss_one (ps_set (i := 5) sc_law_stands.nd rfl (by first | exact Or.inl rfl | exact Or.inr rfl) (pe_op op_cat (pv 5) (pe_ix (My.ix_tupK (K := K) rfl) (pe_ix (My.ix_listK (K := K) rfl) (pv 4) (pv 6) (fun _ _ => rfl)) pe_int (fun _ _ => rfl)))))))))
  (pss_cons (ps_if (PW.pt (pw_or (pt_cmpR (My.neDK (K := K) rfl hr.units) (pe_lc (own := [("one", 7)]) (g := (gName 7)) (by rfl) sc_law_stands.nd (My.pi_listK (K := K) rfl (pv 5)) (blkOk_by (N := N_law_stands) (sc := defScope s_law_stands) (by decide +kernel)) (fun _ _ _ _ _ => (pg_name (i := 7) sc_law_stands.nd rfl (by first | exact Or.inl rfl | exact Or.inr rfl))) (fun _ _ _ _ _ => (pts_one (pt_cmpR (My.in_seqK (K := K) rfl) (pv 7) (pv 2) (by rfl)))) (fun _ _ _ _ _ => (pv 7))) (pe_lst pa_nil) (nomark _)) (pw_or (pt_cmpR op_ne (RZ.pe_lenSetI (by rfl) T.len (by rfl) T.set (pv 5)) (pe_callB (My.len_seqK (K := K) rfl) (by rfl) T.len (by decide +kernel) (pa_cons (pv 5) pa_nil)) (nomark _)) (pw_or1 (pt_cmpR op_ne (My.pe_prp c_Wall_lying hr (by decide) (pv 0)) (pe_callB (My.len_seqK (K := K) rfl) (by rfl) T.len (by decide +kernel) (pa_cons (pv 5) pa_nil)) (nomark _))))))
  (pss_one (ps_ret pe_bl))
  pss_nil)
  (pss_cons (ps_for PassesOwn.never rfl (pi_range2 (by rfl) T.range (pa_cons pe_int (pa_cons (pe_op op_add (pe_callB (My.len_seqK (K := K) rfl) (by rfl) T.len (by decide +kernel) (pa_cons (pv 1) pa_nil)) pe_int) pa_nil))) (pg_name (i := 7) sc_law_stands.nd rfl (by first | exact Or.inl rfl | exact Or.inr rfl))
  (pss_one (ps_if (pt_cmpR op_ne (pe_cmpR (My.op_inOwn c_Wall__contains__ hr (by decide)) (pv 7) (pv 0) (by rfl)) (pe_cmpR (My.in_seqK (K := K) rfl) (pv 7) (pv 5) (by rfl)) (nomark _))
  (pss_one (ps_ret pe_bl))
  pss_nil)))
  (pss_one (ps_ret (pe_cmpR op_eq (My.pe_prp c_Wall_parcels hr (by decide) (pv 0)) (pe_callB (My.len_seqK (K := K) rfl) (by rfl) T.len (by decide +kernel) (pa_cons (pv 1) pa_nil)) (nomark _)))))))))), ?_⟩
    obtain ⟨dx0, _, _, _, _, _, hx0, _⟩ := id hW
    have h12 := sm.b12
    have elen := sm.len
    refine ⟨_, rfl, x, pl, as, W, m, rfl, hW, live, sm, hm5, fun H1 ah s1 nah hah => ?_⟩
    refine ⟨Nat.zero_le _, fun L0 nL0 => ?_⟩
    have y0 := s1.trans (same_new (o := .lst []) nL0)
    have hah0 := hah.same (same_new (o := .lst []) nL0)
    obtain ⟨ps, hps, nps, hpp⟩ := id hah0
    have hpl := hpp.length
    refine ⟨_, _, rfl, ?_⟩
    refine ⟨_, rfl, ah, _, rfl, .inl (SqL.of hps), ((W.cur.boxes.length : Nat) : Int), by rw [List.length_map, hpl], by omega, by omega, ?_⟩
    refine for_range (n := ((W.cur.boxes.length : Nat) : Int).toNat) (fun i σ H' => Same H H' ∧ AhAt as H' ah W.cur.boxes ∧ ∃ (L : Addr) (u : Option V), σ = [some (.ref x), some (.ref hm), some (.ref hd), some (.ref lt), some (.ref ah), some (.ref L), u, none] ∧ H' L = some (.lst ((lyL W i).map V.int))) ⟨y0, hah0, L0, _, rfl, upd_same⟩ ?_ ?_
    · rintro i σ H2 hi ⟨s2, hah2, L, u, rfl, hL⟩
      have hi2 : i < W.cur.boxes.length := by omega
      have e0 : (0 : Int) + (i : Int) = (i : Int) := by omega
      rw [e0]
      obtain ⟨ps, hps, nps, hpp⟩ := id hah2
      have hpl := hpp.length
      obtain ⟨p, hp⟩ : ∃ p, ps[i]? = some p := ⟨ps[i]'(by omega), List.getElem?_eq_getElem (by omega)⟩
      obtain ⟨S, hSi, hStd⟩ := paired_at hpp hp
      obtain ⟨l1, l2, ys, h1, h2, h3, hpm, hpo, _⟩ := id hStd
      have hb := inv.box i S hSi
      have hin : S.inside.length ≤ m := (sm.bd S (List.mem_of_getElem? hSi)).i
      have hva : S.valid.length ≤ m := (sm.bd S (List.mem_of_getElem? hSi)).v
      have hyl : ys.length ≤ m := by rw [hpm.length_eq]; exact hva
      have pv : ∀ {H' : Hp}, Same H2 H' → atI (ps.map V.ref) (i : Int) = some (.ref p) := fun _ => atI_nat (by rw [List.getElem?_map, hp]; rfl)
      refine ⟨_, rfl, _, rfl, _, _, _, _, rfl, rfl, SqL.of hps, pv (Same.refl _), p, _, ((1 : Nat) : Int), _, rfl, rfl, SqT.of h1, atI_nat rfl, ?_⟩
      refine ⟨_, rfl, _, rfl, _, _, _, _, rfl, rfl, SqL.of hps, pv (Same.refl _), p, _, ((1 : Nat) : Int), _, rfl, rfl, SqT.of h1, atI_nat rfl, l1, S.inside, rfl, SqL.of h2, fun ns q1 hp1 hp2 hp3 => ?_⟩
      have e1 : ns = S.inside := PySem.W.ksm_same hp1 hp2 (hb.asc.imp (fun z => Int.le_of_lt z))
      subst e1
      have t1 := same_new (o := .lst (S.inside.map V.int)) hp3
      refine ⟨.list (S.inside.map PyData.int), .list (S.inside.map PyData.int), dp_intsZ (t1 _ _ h2), dp_intsZ upd_same, (sm_ints _).shaped (by decide), (sm_ints _).shaped (by decide), ?_⟩
      rw [(sm_ints _).refl]
      generalize upd H2 q1 (.lst (S.inside.map V.int)) = G1 at t1
      refine ⟨_, rfl, ?_⟩
      refine ⟨_, rfl, _, rfl, _, _, _, _, rfl, rfl, SqL.of (t1 _ _ hps), pv t1, p, _, ((3 : Nat) : Int), _, rfl, rfl, SqT.of (t1 _ _ h1), atI_nat rfl, ?_⟩
      refine ⟨_, rfl, _, rfl, _, _, _, _, rfl, rfl, SqL.of (t1 _ _ hps), pv t1, p, _, ((3 : Nat) : Int), _, rfl, rfl, SqT.of (t1 _ _ h1), atI_nat rfl, l2, ys, rfl, SqL.of (t1 _ _ h3), fun ns2 q2 hq1 hq2 hq3 => ?_⟩
      have e2 : ns2 = ys := PySem.W.ksm_same hq1 hq2 hpo
      subst e2
      have t2 := same_new (o := .lst (ns2.map V.int)) hq3
      refine ⟨.list (ns2.map PyData.int), .list (ns2.map PyData.int), dp_intsZ (t2 _ _ (t1 _ _ h3)), dp_intsZ upd_same, (sm_ints _).shaped (by decide), (sm_ints _).shaped (by decide), ?_⟩
      rw [(sm_ints _).refl]
      generalize upd G1 q2 (.lst (ns2.map V.int)) = G2 at t2
      have t12 := t1.trans t2
      refine ⟨_, rfl, L2.iteF ?_⟩
      -- given to this box
      have k2 : G2 l2 = some (.lst (ns2.map V.int)) := t12 _ _ h3
      refine ⟨_, rfl, _, rfl, _, _, _, _, rfl, rfl, SqL.of (t12 _ _ hps), pv t12, p, _, ((1 : Nat) : Int), _, rfl, rfl, SqT.of (t12 _ _ h1), atI_nat rfl, ?_⟩
      refine ⟨_, rfl, _, rfl, _, _, _, _, rfl, rfl, SqL.of (t12 _ _ hps), pv t12, p, _, ((3 : Nat) : Int), _, rfl, rfl, SqT.of (t12 _ _ h1), atI_nat rfl, ?_⟩
      refine ⟨l1, l2, _, _, rfl, rfl, t12 _ _ h2, k2, ?_, fun c hc => ?_⟩
      · rw [List.length_map, List.length_map]
        exact Nat.le_of_lt (lt_line (by omega))
      rw [← List.map_append]
      have t3 := same_new (o := .lst ((S.inside ++ ns2).map V.int)) hc
      refine ⟨c, rfl, ⟨_, SqL.of upd_same⟩, fun D hD => ?_⟩
      refine lc_list (K := K) (a := c) (xs := (S.inside ++ ns2).map V.int) (fun i H' => Same G2 H' ∧ H' c = some (.lst ((S.inside ++ ns2).map V.int)) ∧ H' D = some (.lst [])) ⟨t3.trans (same_new hD), same_new hD _ _ upd_same, upd_same⟩ (fun i H' _ z => SqL.of z.2.1) ?_ ?_
      · rintro j y H6 hj ⟨s6, hc6, hD6⟩
        obtain ⟨z, hz, rfl⟩ := map_get hj
        have hh : Home W.cur.given i z := by
          rcases List.mem_append.mp (List.mem_of_getElem? hz) with e | e
          · exact hb.ins z e
          · exact (hb.val z (hpm.mem_iff.mp e)).1
        refine ⟨rfl, ?_⟩
        refine ⟨_, rfl, _, rfl, _, _, rfl, rfl, hm, _, _, _, rfl, rfl, SqL.of (s6 _ _ (t12 _ _ (s2 _ _ hhm))), at_home hh, _, rfl, rfl, _, rfl, ?_⟩
        rw [show (!decide (V.int (i : Int) = V.int (i : Int))) = false by simp]
        exact L2.iteF ⟨s6, hc6, hD6⟩
      · rintro H6 ⟨s6, hc6, hD6⟩
        refine ⟨Nat.zero_le _, fun e0 he0 => ?_⟩
        have t4 := s6.trans (same_new (o := .lst []) he0)
        refine ⟨.list [], .list [], nilD (same_new he0 _ _ hD6), nilD upd_same, sm_nil.shaped (by decide), sm_nil.shaped (by decide), ?_⟩
        rw [sm_nil.refl]
        refine ⟨_, rfl, L2.iteF ?_⟩
        generalize upd H6 e0 (.lst []) = G3 at t4
        have t14 := t12.trans t4
        -- written before
        refine ⟨_, rfl, _, rfl, _, _, _, _, rfl, rfl, SqL.of (t14 _ _ hps), pv t14, p, _, ((3 : Nat) : Int), _, rfl, rfl, SqT.of (t14 _ _ h1), atI_nat rfl, ?_⟩
        refine ⟨l2, rfl, ⟨_, SqL.of (t4 _ _ k2)⟩, fun D2 hD2 => ?_⟩
        refine lc_list (K := K) (a := l2) (xs := ns2.map V.int) (fun i H' => Same G3 H' ∧ H' D2 = some (.lst [])) ⟨same_new hD2, upd_same⟩ (fun i H' _ z => SqL.of (z.1 _ _ (t4 _ _ k2))) ?_ ?_
        · rintro j y H7 hj ⟨s7, hD7⟩
          obtain ⟨z, hz, rfl⟩ := map_get hj
          have hh := (hb.val z (hpm.mem_iff.mp (List.mem_of_getElem? hz))).2
          refine ⟨rfl, ?_⟩
          refine ⟨_, rfl, _, rfl, lt, _, rfl, .inl (SqL.of (s7 _ _ (t14 _ _ (s2 _ _ hlt)))), rfl, all_flat_int _, _, rfl, ?_⟩
          rw [if_pos rfl, inV_int, decide_eq_true hh]
          exact L2.iteF ⟨s7, hD7⟩
        · rintro H7 ⟨s7, hD7⟩
          refine ⟨Nat.zero_le _, fun e1 he1 => ?_⟩
          have t5 := s7.trans (same_new (o := .lst []) he1)
          refine ⟨.list [], .list [], nilD (same_new he1 _ _ hD7), nilD upd_same, sm_nil.shaped (by decide), sm_nil.shaped (by decide), ?_⟩
          rw [sm_nil.refl]
          refine ⟨_, rfl, L2.iteF ?_⟩
          generalize upd H7 e1 (.lst []) = G4 at t5
          have t15 := t14.trans t5
          have hL4 := t15 _ _ hL
          refine ⟨_, rfl, _, rfl, _, rfl, _, _, _, _, rfl, rfl, SqL.of (t15 _ _ hps), pv t15, p, _, ((1 : Nat) : Int), _, rfl, rfl, SqT.of (t15 _ _ h1), atI_nat rfl, ?_⟩
          refine ⟨L, l1, _, _, rfl, rfl, hL4, t15 _ _ h2, ?_, fun c2 hc2 => ?_⟩
          · rw [List.length_map, List.length_map]
            have h1 := lyL_len (m := m) sm i (by omega)
            have h3 : m * i ≤ m * 12 := Nat.mul_le_mul_left _ (by omega)
            exact Nat.le_of_lt (lt_line (by omega))
          · have t6 := t15.trans (same_new (o := .lst ((lyL W i).map V.int ++ S.inside.map V.int)) hc2)
            refine ⟨s2.trans t6, hah2.same t6, c2, _, rfl, ?_⟩
            rw [upd_same, lyL_succ hSi, List.map_append]
    rintro σ H2 ⟨s2, hah2, L, u, rfl, hL⟩
    rw [Int.toNat_natCast] at hL
    obtain ⟨ndl, hom⟩ := inv.nodup _ (Nat.le_refl _)
    have lg : (lyL W W.cur.boxes.length).length ≤ W.cur.given.length := nodup_len _ _ ndl fun p hp => by
      obtain ⟨i, _, hh⟩ := hom p hp
      exact hh.rng
    have dn : ∀ n : Int, (!decide (V.int n = V.int n)) = false := fun n => by simp
    have hll := lyL_len (m := m) sm _ (Nat.le_refl _)
    have hl12 : m * W.cur.boxes.length ≤ m * 12 := Nat.mul_le_mul_left _ (by omega)
    refine ⟨_, rfl, L, rfl, ⟨_, SqL.of hL⟩, fun D hD => ?_⟩
    refine lc_list (K := K) (a := L) (xs := (lyL W W.cur.boxes.length).map V.int) (fun i H' => Same H2 H' ∧ H' D = some (.lst [])) ⟨same_new hD, upd_same⟩ (fun i H' _ z => SqL.of (z.1 _ _ hL)) ?_ ?_
    · rintro j y H6 hj ⟨s6, hD6⟩
      obtain ⟨z, hz, rfl⟩ := map_get hj
      have hh := inv.lie z (List.mem_of_getElem? hz)
      refine ⟨rfl, ?_⟩
      refine ⟨_, rfl, _, rfl, hd, _, rfl, .inl (SqL.of (s6 _ _ (s2 _ _ hhd))), rfl, all_flat_int _, _, rfl, ?_⟩
      rw [if_neg Bool.false_ne_true, inV_int, decide_eq_false hh]
      exact L2.iteF ⟨s6, hD6⟩
    · rintro H6 ⟨s6, hD6⟩
      refine ⟨Nat.zero_le _, fun e0 he0 => ?_⟩
      have t4 := s6.trans (same_new (o := .lst []) he0)
      refine ⟨.list [], .list [], nilD (same_new he0 _ _ hD6), nilD upd_same, sm_nil.shaped (by decide), sm_nil.shaped (by decide), ?_⟩
      rw [sm_nil.refl]
      refine ⟨_, rfl, ?_⟩
      generalize upd H6 e0 (.lst []) = G3 at t4
      have k3 := t4 _ _ hL
      have t24 := s2.trans t4
      refine ⟨_, rfl, L, _, rfl, SqL.of k3, ndl, by omega, _, rfl, L, _, rfl, .inl (SqL.of k3), rfl, _, rfl, ?_⟩
      rw [List.length_map, dn]
      refine ⟨_, rfl, x, dx0, _, rfl, t24 _ _ hx0, x, pl, as, W, rfl, hW.same t24, h12, fun H4 t5 => ?_⟩
      have k4 := t5 _ _ k3
      have t25 := t24.trans t5
      refine ⟨_, rfl, L, _, rfl, .inl (SqL.of k4), rfl, _, rfl, ?_⟩
      rw [List.length_map, lyL_all, dn]
      refine L2.iteF ?_
      refine ⟨_, rfl, hm, _, rfl, .inl (SqL.of (t25 _ _ hhm)), ?_⟩
      refine ⟨_, _, rfl, rfl, 1, ((W.cur.given.length : Nat) : Int) + 2, by rw [List.length_map], by omega, ?_⟩
      refine for_range (n := (((W.cur.given.length : Nat) : Int) + 2 - 1).toNat) (fun i σ H' => Same H4 H' ∧ ∃ v : Option V, σ = [some (.ref x), some (.ref hm), some (.ref hd), some (.ref lt), some (.ref ah), some (.ref L), u, v]) ⟨Same.refl _, _, rfl⟩ ?_ ?_
      · rintro i σ H5 hi ⟨s5, v, rfl⟩
        refine ⟨_, rfl, _, rfl, x, dx0, _, rfl, s5 _ _ (t25 _ _ hx0), x, pl, as, W, 1 + (i : Int), rfl, hW.same (t25.trans s5), h12, fun H6 s6 => ?_⟩
        refine ⟨_, rfl, _, rfl, _, rfl, L, _, rfl, .inl (SqL.of (s6 _ _ (s5 _ _ k4))), rfl, all_flat_int _, rfl, _, rfl, ?_⟩
        rw [if_neg Bool.false_ne_true, inV_int, ← inW_eq iok, show (!decide (V.bl (inW W (1 + (i : Int))) = V.bl (inW W (1 + (i : Int))))) = false by simp]
        exact L2.iteF ⟨s5.trans s6, _, rfl⟩
      · rintro σ H5 ⟨s5, v, rfl⟩
        refine ⟨_, rfl, x, dx0, _, rfl, s5 _ _ (t25 _ _ hx0), x, pl, as, W, rfl, hW.same (t25.trans s5), ?_⟩
        refine ⟨_, rfl, hm, _, rfl, .inl (SqL.of (s5 _ _ (t25 _ _ hhm))), rfl, ?_⟩
        rw [List.length_map, decide_eq_true rfl]
        exact q _ (t25.trans s5)
theorem c_law_stands (T : Txt w K mg) : C8.Cal P w K mg base 5 "_law_stands" (sp_law_stands K) [] := by
  obtain ⟨fd, F⟩ := T.f_law_stands
  exact ⟨_, fd, _, _, ok_law_stands T F, T.g_law_stands, F.kp, F.bindsN (fun _ _ _ _ _ _ us hl => match us, hl with | [_, _, _, _], _ => rfl), .nil⟩
end
end K67

namespace K67
open PySem PySem.Spec PyProof.Rows L2 My StX
/-! ### days and failures of the power -/
def ownL (giv : List (Option Nat)) (i : Nat) (n : Nat) : List Int := ((List.range n).filter fun j => decide (giv[j]? = some (some i))).map fun j : Nat => (j : Int) + 1
theorem ownL_succ (giv : List (Option Nat)) (i n : Nat) : ownL giv i (n + 1) = ownL giv i n ++ (if giv[n]? = some (some i) then [(n : Int) + 1] else []) := by
  unfold ownL
  rw [List.range_succ, List.filter_append, List.map_append]
  congr 1
  by_cases c : giv[n]? = some (some i)
  · rw [if_pos c, List.filter_cons, if_pos (decide_eq_true c)]; rfl
  · rw [if_neg c, List.filter_cons, if_neg (by simpa using c)]; rfl
theorem ownL_le {giv : List (Option Nat)} {i n : Nat} : (ownL giv i n).length ≤ n := by
  unfold ownL
  rw [List.length_map]
  have := List.length_filter_le (fun j => decide (giv[j]? = some (some i))) (List.range n)
  rw [List.length_range] at this
  exact this
theorem ownL_last {giv : List (Option Nat)} {i : Nat} {q : Int} (h : Home giv i q) (m : ∀ p, Home giv i p → p ≤ q) : ∃ l, ownL giv i giv.length = l ++ [q] := by
  obtain ⟨j, e, hj⟩ := h
  have jl := (List.getElem?_eq_some_iff.mp hj).1
  have key : ∀ n, j < n → n ≤ giv.length → ownL giv i n = ownL giv i (j + 1) := by
    intro n
    induction n with
    | zero => intro a; omega
    | succ n ih =>
      intro h1 h2
      by_cases c : n = j
      · rw [c]
      · rw [ownL_succ, if_neg, List.append_nil]
        · exact ih (by omega) (by omega)
        · intro z
          have := m ((n : Int) + 1) ⟨n, rfl, z⟩
          omega
  rw [key _ jl (Nat.le_refl _), ownL_succ, if_pos hj, e]
  exact ⟨_, rfl⟩
structure TickG (W : WallS) (day : Bool) (g : BoxS → BoxS × ToldS) : Prop where
  ins : ∀ S, (g S).1.inside = S.inside
  age : ∀ S, (g S).1.age = if day = true then S.age.map (· + 1) else S.age
  lt : ∀ (i : Nat) (S : BoxS), W.cur.boxes[i]? = some S → ∀ p ∈ (g S).2.letters, S.last = some p
theorem tick_day {W : WallS} {lets had : List Int} (h : Inv67 W lets had) : TickG W true (dayF W.cur.d W.cur.rs) :=
  ⟨fun S => day_is.1, fun S => by rw [if_pos rfl]; exact day_is.2, fun i S hS p hp => (day_mid (h.box i S hS).last (h.box i S hS).val).lt p hp⟩
theorem tick_power {W : WallS} {lets had : List Int} (h : Inv67 W lets had) : TickG W false (powerF W.cur.rs) :=
  ⟨fun S => power_is.1, fun S => by rw [if_neg Bool.false_ne_true]; exact power_is.2, fun i S hS p hp => (power_mid (h.box i S hS).last (h.box i S hS).val).lt p hp⟩
theorem tick_told {W : WallS} {lets had : List Int} {day : Bool} {g : BoxS → BoxS × ToldS} (h : Inv67 W lets had) (t : TickG W day g) {p : Int} (hp : p ∈ W.cur.boxes.flatMap fun S => (g S).2.letters) : ∃ (i : Nat) (S : BoxS), W.cur.boxes[i]? = some S ∧ S.last = some p ∧ Home W.cur.given i p ∧ ∃ l, ownL W.cur.given i W.cur.given.length = l ++ [p] := by
  obtain ⟨S, hS, hp⟩ := List.mem_flatMap.mp hp
  obtain ⟨i, hi⟩ := List.getElem?_of_mem hS
  have e := t.lt i S hi p hp
  have hl := (h.box i S hi).last
  rw [e] at hl
  exact ⟨i, S, hi, e, hl.1, ownL_last hl.1 hl.2⟩
theorem giV_eq (o : Option Nat) (i : Nat) : decide (giV o = V.int (i : Int)) = decide (o = some i) := by
  cases o with
  | none => exact decide_eq_decide.mpr ⟨fun z => (nomatch z), fun z => (nomatch z)⟩
  | some j => exact decide_eq_decide.mpr ⟨fun z => by
      have : (j : Int) = (i : Int) := V.int.inj z
      exact congrArg some (by omega), fun z => by rw [Option.some.inj z]; rfl⟩
section
variable {P : Program} {w : World} {K : PySem.W.Frag} {mg : Str → Option Value} {base : Heap}
def sp_law_aged (K : PySem.W.Frag) : Sp := fun vs H Q _ => ∃ (ca tl ah bh hm : Addr) (as : List Addr) (W : WallS) (lets had : List Int) (c : Call) (day : Bool) (g : BoxS → BoxS × ToldS), vs = [.ref ca, .ref tl, .ref ah, .ref bh, .ref hm] ∧
  SqT K H ca c.vs ∧ c.vs[0]? = some (.str (if day = true then "day" else "power")) ∧ TickG W day g ∧ Inv67 W lets had ∧ W.cur.boxes.length ≤ 12 ∧ W.cur.given.length ≤ 3000 ∧ (∀ S ∈ W.cur.boxes, S.inside.length ≤ 50000) ∧
  H tl = some (.lst ((W.cur.boxes.flatMap fun S => (g S).2.letters).map V.int)) ∧ AhAt as H ah W.cur.boxes ∧ AhAt as H bh (W.cur.boxes.map fun S => (g S).1) ∧ H hm = some (.lst (W.cur.given.map giV)) ∧
  ∀ H', Same H H' → Q (.bl true) H'
set_option maxHeartbeats 2000000 in
theorem ok_law_aged (T : Txt w K mg) {fd : FuncData} (F : FunD K d_law_aged.name d_law_aged.qual d_law_aged.params d_law_aged.body d_law_aged.scope (d_law_aged.dvs K) (d_law_aged.kws K) (He.fAd K d_law_aged.at_) fd) : FnOk P w K mg base C8.CX0 1 (He.fAd K d_law_aged.at_) fd ["call", "told", "ahead", "behind", "homes"] (sp_law_aged K) := by
  refine F.ok sc_law_aged (fun vs H Q E h => ?_) (fun cdv A outer s H vs Q E hr h => ?_)
  · obtain ⟨ca, tl, ah, bh, hm, as, W, lets, had, c, day, g, rfl, _⟩ := h
    rfl
  · have hu := L2.hu_of hr
    obtain ⟨ca, tl, ah, bh, hm, as, W, lets, had, c, day, g, rfl, hca, hc0, tk, inv, h12, h3000, hin5, htl, hah, hbh, hhm, q⟩ := h
    refine ⟨_, (PSs.nox ((pss_cons (ps_for PassesOwn.never rfl (pi_range1 (by rfl) T.range (pa_cons (pe_callB (My.len_seqK (K := K) rfl) (by rfl) T.len (by decide +kernel) (pa_cons (pv 2) pa_nil)) pa_nil)) (pg_name (i := 5) sc_law_aged.nd rfl (by first | exact Or.inl rfl | exact Or.inr rfl))
  (pss_cons (ps_set (i := 6) sc_law_aged.nd rfl (by first | exact Or.inl rfl | exact Or.inr rfl) (pe_ix (My.ix_tupK (K := K) rfl) (pe_ix (My.ix_listK (K := K) rfl) (pv 2) (pv 5) (fun _ _ => rfl)) pe_int (fun _ _ => rfl)))
  (pss_cons (ps_if (PW.pt (pw_and (pt_cmpR op_eq (pe_ix (My.ix_tupK (K := K) rfl) (pv 0) pe_int (fun _ _ => rfl)) pe_str (nomark _)) (pw_and1 (pt_cmpR op_notN (pv 6) pe_non (nomark _)))))
  (pss_one (ps_set (i := 6) sc_law_aged.nd rfl (by first | exact Or.inl rfl | exact Or.inr rfl) (pe_op op_add (pv 6) pe_int)))
  pss_nil)
  (pss_cons (ps_set (i := 7) sc_law_aged.nd rfl (by first | exact Or.inl rfl | exact Or.inr rfl) (pe_lc (own := [("parcel", 8)]) (g := (gName 8)) (by rfl) sc_law_aged.nd (pi_range2 (by rfl) T.range (pa_cons pe_int (pa_cons (pe_op op_add (pe_callB (My.len_seqK (K := K) rfl) (by rfl) T.len (by decide +kernel) (pa_cons (pv 4) pa_nil)) pe_int) pa_nil))) (blkOk_by (N := N_law_aged) (sc := defScope s_law_aged) (by decide +kernel)) (fun _ _ _ _ _ => (pg_name (i := 8) sc_law_aged.nd rfl (by first | exact Or.inl rfl | exact Or.inr rfl))) (fun _ _ _ _ _ => (pts_one (pt_cmpR op_eq (pe_ix (My.ix_listK (K := K) rfl) (pv 4) (pe_op op_sub (pv 8) pe_int) (fun _ _ => rfl)) (pv 5) (nomark _)))) (fun _ _ _ _ _ => (pv 8))))
  (pss_cons (ps_if (PW.pt (pw_or (pt_cmpR (My.neDK (K := K) rfl hr.units) (pe_ix (My.ix_tupK (K := K) rfl) (pe_ix (My.ix_listK (K := K) rfl) (pv 3) (pv 5) (fun _ _ => rfl)) pe_int (fun _ _ => rfl)) (pe_ix (My.ix_tupK (K := K) rfl) (pe_ix (My.ix_listK (K := K) rfl) (pv 2) (pv 5) (fun _ _ => rfl)) pe_int (fun _ _ => rfl)) (nomark _)) (pw_or1 (pt_cmpR op_ne (pe_ix (My.ix_tupK (K := K) rfl) (pe_ix (My.ix_listK (K := K) rfl) (pv 3) (pv 5) (fun _ _ => rfl)) pe_int (fun _ _ => rfl)) (pv 6) (nomark _)))))
  (pss_one (ps_ret pe_bl))
  pss_nil)
  (pss_one (ps_if (pt_cmpR (My.neDK (K := K) rfl hr.units) (pe_lc (own := [("one", 9)]) (g := (gName 9)) (by rfl) sc_law_aged.nd (My.pi_listK (K := K) rfl (pv 1)) (blkOk_by (N := N_law_aged) (sc := defScope s_law_aged) (by decide +kernel)) (fun _ _ _ _ _ => (pg_name (i := 9) sc_law_aged.nd rfl (by first | exact Or.inl rfl | exact Or.inr rfl))) (fun _ _ _ _ _ => (pts_one (PW.pt (pw_and (pt_cmpR op_eq (pe_ix (My.ix_listK (K := K) rfl) (pv 4) (pe_op op_sub (pv 9) pe_int) (fun _ _ => rfl)) (pv 5) (nomark _)) (pw_and1 (pt_cmpR op_ne (pv 9) (pe_ix (My.ix_listK (K := K) rfl) (pv 7) (pe_un un_neg pe_int) (fun _ _ => rfl)) (nomark _))))))) (fun _ _ _ _ _ => (pv 9))) (pe_lst pa_nil) (nomark _))
  (pss_one (ps_ret pe_bl))
  pss_nil)))))))
  (pss_one (ps_ret pe_bl))))), ?_⟩
    obtain ⟨ps, hps, nps, hpp⟩ := id hah
    obtain ⟨qs, hqs, nqs, hqq⟩ := id hbh
    have hpl := hpp.length
    have hql := hqq.length
    refine ⟨_, rfl, ah, _, rfl, .inl (SqL.of hps), ((W.cur.boxes.length : Nat) : Int), by rw [List.length_map, hpl], by omega, by omega, ?_⟩
    refine for_range (n := ((W.cur.boxes.length : Nat) : Int).toNat) (fun i σ H' => Same H H' ∧ ∃ u5 u6 u7 : Option V, σ = [some (.ref ca), some (.ref tl), some (.ref ah), some (.ref bh), some (.ref hm), u5, u6, u7, none, none]) ⟨Same.refl _, _, _, _, rfl⟩ ?_ ?_
    · rintro i σ H2 hi ⟨s2, u5, u6, u7, rfl⟩
      have hi2 : i < W.cur.boxes.length := by omega
      have e0 : (0 : Int) + (i : Int) = (i : Int) := by omega
      rw [e0]
      obtain ⟨p, hp⟩ : ∃ p, ps[i]? = some p := ⟨ps[i]'(by omega), List.getElem?_eq_getElem (by omega)⟩
      obtain ⟨r, hr⟩ : ∃ r, qs[i]? = some r := ⟨qs[i]'(by rw [List.length_map] at hql; omega), List.getElem?_eq_getElem (by rw [List.length_map] at hql; omega)⟩
      obtain ⟨S, hSi, hStd⟩ := paired_at hpp hp
      obtain ⟨S2, hSi2, hStd2⟩ := paired_at hqq hr
      obtain ⟨S3, hS3, rfl⟩ := map_get hSi2
      obtain rfl : S = S3 := Option.some.inj (hSi.symm.trans hS3)
      obtain ⟨l1, l2, ys, h1, h2, h3, hpm, hpo, _⟩ := id hStd
      obtain ⟨m1, m2, zs, g1, g2, g3, hqm, hqo, _⟩ := id hStd2
      rw [tk.ins S] at g2
      rw [tk.age S] at g1
      have pv : ∀ {H' : Hp}, Same H2 H' → atI (ps.map V.ref) (i : Int) = some (.ref p) := fun _ => atI_nat (by rw [List.getElem?_map, hp]; rfl)
      have qv : ∀ {H' : Hp}, Same H2 H' → atI (qs.map V.ref) (i : Int) = some (.ref r) := fun _ => atI_nat (by rw [List.getElem?_map, hr]; rfl)
      refine ⟨_, rfl, _, rfl, _, _, _, _, rfl, rfl, SqL.of (s2 _ _ hps), pv (Same.refl _), p, _, ((4 : Nat) : Int), _, rfl, rfl, SqT.of (s2 _ _ h1), atI_nat rfl, ?_⟩
      have rest : ∀ (Dn : Ends) (o : Option Int), o = (g S).1.age → (∀ H' u7, Same H H' → Dn.nx [some (.ref ca), some (.ref tl), some (.ref ah), some (.ref bh), some (.ref hm), some (.int (i : Int)), some (oV o), u7, none, none] H') →
                    (tSeq
                      (tAsg
                        (tLc
                          (iRng2
                            (tCons (tC (V.int 1))
                              (tCons
                                (tOp (rI0 fun i j => V.int (i + j)) (tCB (rLenQ K) (tCons (tVar 4) tNil)) (tC (V.int 1)))
                                tNil)))
                          (gName 8)
                          (tTest
                            (tOp rEq (tOp (rIxL K) (tVar 4) (tOp (rI0 fun i j => V.int (i - j)) (tVar 8) (tC (V.int 1))))
                              (tVar 5)))
                          (tVar 8) (List.map (fun x => x.snd) [(Str.ofString "parcel", 8)]))
                        (gName 7))
                      (tSeq
                        (tIfS
                          (tOr
                            (tTest
                              (tOp (rNeD K) (tOp (rIxT K) (tOp (rIxL K) (tVar 3) (tVar 5)) (tC (V.int 1)))
                                (tOp (rIxT K) (tOp (rIxL K) (tVar 2) (tVar 5)) (tC (V.int 1)))))
                            (tTest (tOp rNe (tOp (rIxT K) (tOp (rIxL K) (tVar 3) (tVar 5)) (tC (V.int 4))) (tVar 6))))
                          (tRet (tC (V.bl false))) tNext)
                        (tIfS
                          (tTest
                            (tOp (rNeD K)
                              (tLc (iList K (tVar 1)) (gName 9)
                                (tAnd
                                  (tTest
                                    (tOp rEq
                                      (tOp (rIxL K) (tVar 4) (tOp (rI0 fun i j => V.int (i - j)) (tVar 9) (tC (V.int 1))))
                                      (tVar 5)))
                                  (tTest
                                    (tOp rNe (tVar 9)
                                      (tOp (rIxL K) (tVar 7) (tUn (rU fun i => V.int (-i)) (tC (V.int 1)))))))
                                (tVar 9) (List.map (fun x => x.snd) [(Str.ofString "one", 9)]))
                              (tLst tNil)))
                          (tRet (tC (V.bl false))) tNext))) Dn [some (.ref ca), some (.ref tl), some (.ref ah), some (.ref bh), some (.ref hm), some (.int (i : Int)), some (oV o), u7, none, none] H2 := by
        intro Dn o ho qn
        refine ⟨_, rfl, hm, _, rfl, .inl (SqL.of (s2 _ _ hhm)), ?_⟩
        refine ⟨_, _, rfl, rfl, 1, ((W.cur.given.length : Nat) : Int) + 1, by rw [List.length_map], by omega, fun D hD => ?_⟩
        refine lc_range (lo := 1) (n := (((W.cur.given.length : Nat) : Int) + 1 - 1).toNat) (fun k H' => Same H2 H' ∧ H' D = some (.lst ((ownL W.cur.given i k).map V.int))) ⟨same_new hD, upd_same⟩ ?_ ?_
        · rintro k H4 hk ⟨s4, hD4⟩
          have hk2 : k < W.cur.given.length := by omega
          have hko : W.cur.given[k]? = some W.cur.given[k] := List.getElem?_eq_getElem hk2
          refine ⟨rfl, ?_⟩
          refine ⟨_, rfl, _, rfl, _, _, rfl, rfl, hm, _, _, _, rfl, rfl, SqL.of (s4 _ _ (s2 _ _ hhm)), (by rw [show 1 + (k : Int) - 1 = (k : Int) by omega]; exact atI_nat (by rw [List.getElem?_map, hko]; rfl)), _, rfl, (by cases W.cur.given[k] <;> rfl), _, rfl, ?_⟩
          rw [giV_eq]
          have e1 := ownL_succ W.cur.given i k
          rw [hko] at e1
          by_cases c : W.cur.given[k] = some i
          · rw [if_pos (congrArg some c)] at e1
            rw [decide_eq_true c]
            have hle := ownL_le (giv := W.cur.given) (i := i) (n := k)
            refine L2.iteT ⟨_, rfl, _, hD4, by rw [List.length_map]; exact lt_line (by omega), same_upd s4 hD, ?_⟩
            rw [upd_same, e1, List.map_append, show 1 + (k : Int) = (k : Int) + 1 by omega]
            rfl
          · rw [if_neg (fun z => c (Option.some.inj z)), List.append_nil] at e1
            rw [decide_eq_false c]
            refine L2.iteF ⟨s4, by rw [e1]; exact hD4⟩
        · rintro H4 ⟨s4, hD4⟩
          rw [show (((W.cur.given.length : Nat) : Int) + 1 - 1).toNat = W.cur.given.length by omega] at hD4
          have s24 := s2.trans s4
          have hD' := hD4
          refine ⟨_, rfl, _, rfl, _, _, _, _, rfl, rfl, SqL.of (s24 _ _ hqs), qv s4, r, _, ((1 : Nat) : Int), _, rfl, rfl, SqT.of (s4 _ _ (s2 _ _ g1)), atI_nat rfl, ?_⟩
          refine ⟨_, rfl, _, rfl, _, _, _, _, rfl, rfl, SqL.of (s24 _ _ hps), pv s4, p, _, ((1 : Nat) : Int), _, rfl, rfl, SqT.of (s4 _ _ (s2 _ _ h1)), atI_nat rfl, ?_⟩
          refine ⟨.list (S.inside.map PyData.int), .list (S.inside.map PyData.int), dp_intsZ (s24 _ _ g2), dp_intsZ (s24 _ _ h2), (sm_ints _).shaped (by decide), (sm_ints _).shaped (by decide), ?_⟩
          rw [(sm_ints _).refl]
          refine ⟨_, rfl, ?_⟩
          rw [tk.age S] at ho
          refine ⟨_, rfl, _, rfl, _, _, _, _, rfl, rfl, SqL.of (s24 _ _ hqs), qv s4, r, _, ((4 : Nat) : Int), _, rfl, rfl, SqT.of (s4 _ _ (s2 _ _ g1)), atI_nat rfl, _, rfl, (by rw [← ho]; cases o <;> rfl), _, rfl, ?_⟩
          rw [← ho, show (!decide (oV o = oV o)) = false by simp]
          refine L2.iteF ?_
          refine ⟨_, rfl, tl, rfl, ⟨_, SqL.of (s24 _ _ htl)⟩, fun D2 hD2 => ?_⟩
          refine lc_list (K := K) (a := tl) (xs := (W.cur.boxes.flatMap fun S => (g S).2.letters).map V.int) (fun i H' => Same H4 H' ∧ H' D2 = some (.lst [])) ⟨same_new hD2, upd_same⟩ (fun i H' _ z => SqL.of (z.1 _ _ (s24 _ _ htl))) ?_ ?_
          · rintro j y H7 hj ⟨s7, hD7⟩
            obtain ⟨z, hz, rfl⟩ := map_get hj
            obtain ⟨k, S', hk, elast, hh, ll, hown⟩ := tick_told inv tk (List.mem_of_getElem? hz)
            refine ⟨rfl, ?_⟩
            refine ⟨_, rfl, _, rfl, _, _, rfl, rfl, hm, _, _, _, rfl, rfl, SqL.of (s7 _ _ (s24 _ _ hhm)), at_home hh, _, rfl, rfl, _, rfl, ?_⟩
            by_cases c : k = i
            · subst c
              rw [show decide (V.int (k : Int) = V.int (k : Int)) = true by simp]
              refine L2.iteT ?_
              refine ⟨_, rfl, _, rfl, _, rfl, D, _, -1, .int z, rfl, rfl, SqL.of (s7 _ _ hD4), by rw [hown, List.map_append]; exact atI_last _ _, rfl, _, rfl, ?_⟩
              rw [show (!decide (V.int z = V.int z)) = false by simp]
              exact L2.iteF ⟨s7, hD7⟩
            · rw [show decide (V.int (k : Int) = V.int (i : Int)) = false from decide_eq_false fun w => c (by have : (k : Int) = (i : Int) := V.int.inj w; omega)]
              exact L2.iteF ⟨s7, hD7⟩
          · rintro H7 ⟨s7, hD7⟩
            refine ⟨Nat.zero_le _, fun e1 he1 => ?_⟩
            have t5 := s7.trans (same_new (o := .lst []) he1)
            refine ⟨.list [], .list [], nilD (same_new he1 _ _ hD7), nilD upd_same, sm_nil.shaped (by decide), sm_nil.shaped (by decide), ?_⟩
            rw [sm_nil.refl]
            refine ⟨_, rfl, L2.iteF ?_⟩
            exact qn _ _ (s24.trans t5)
      have fin : ∀ H' (o : Option Int) (u7 : Option V), Same H H' → Same H H' ∧ ∃ u5 u6 u7' : Option V, [some (.ref ca), some (.ref tl), some (.ref ah), some (.ref bh), some (.ref hm), some (.int (i : Int)), some (oV o), u7, none, none] = [some (.ref ca), some (.ref tl), some (.ref ah), some (.ref bh), some (.ref hm), u5, u6, u7', none, none] := fun H' o u7 s => ⟨s, _, _, _, rfl⟩
      have ag := tk.age S
      cases day with
      | false =>
        rw [if_neg Bool.false_ne_true] at hc0 ag
        refine ⟨_, rfl, ca, _, ((0 : Nat) : Int), _, rfl, rfl, same_tup s2 hca, atI_nat hc0, rfl, _, rfl, ?_⟩
        rw [str_eqF (show ("power" : Str) ≠ "day" by decide)]
        refine L2.iteF (L2.iteF ?_)
        exact rest _ S.age ag.symm (fun H' u7 s => fin H' S.age u7 s)
      | true =>
        rw [if_pos rfl] at hc0 ag
        refine ⟨_, rfl, ca, _, ((0 : Nat) : Int), _, rfl, rfl, same_tup s2 hca, atI_nat hc0, rfl, _, rfl, ?_⟩
        rw [str_eqT rfl]
        refine L2.iteT ?_
        cases ea : S.age with
        | none =>
          rw [ea] at ag
          refine ⟨_, rfl, rfl, _, rfl, L2.iteF ?_⟩
          exact rest _ none ag.symm (fun H' u7 s => fin H' none u7 s)
        | some a =>
          rw [ea] at ag
          refine ⟨_, rfl, rfl, _, rfl, L2.iteT ?_⟩
          refine ⟨_, rfl, _, _, rfl, rfl, ?_⟩
          exact rest _ (some (a + 1)) ag.symm (fun H' u7 s => fin H' (some (a + 1)) u7 s)
    rintro σ H2 ⟨s2, u5, u6, u7, rfl⟩
    exact q _ s2
theorem c_law_aged (T : Txt w K mg) : C8.Cal P w K mg base 1 "_law_aged" (sp_law_aged K) [] := by
  obtain ⟨fd, F⟩ := T.f_law_aged
  exact ⟨_, fd, _, _, ok_law_aged T F, T.g_law_aged, F.kp, F.bindsN (fun _ _ _ _ _ _ us hl => match us, hl with | [_, _, _, _, _], _ => rfl), .nil⟩
end
end K67

namespace K67
open PySem PySem.Spec PyProof.Rows L2 My StX
/-! ### brings, codes and visits -/
def stdK (W : WallS) (k : Nat) : PyData := stdD (boxOf W k) (srt (boxOf W k))
def stL (W V : WallS) (n : Nat) : List Nat := (List.range n).filter fun k => !PyData.eqv (stdK W k) (stdK V k)
theorem stL_succ (W V : WallS) (n : Nat) : stL W V (n + 1) = stL W V n ++ (if PyData.eqv (stdK W n) (stdK V n) = true then [] else [n]) := by
  unfold stL
  rw [List.range_succ, List.filter_append]
  congr 1
  cases c : PyData.eqv (stdK W n) (stdK V n) with
  | true => rw [if_pos rfl, List.filter_cons, if_neg (by rw [c]; simp)]; rfl
  | false => rw [if_neg Bool.false_ne_true, List.filter_cons, if_pos (by rw [c]; rfl)]; rfl
theorem stL_le {W V : WallS} {n : Nat} : (stL W V n).length ≤ n := by
  have := List.length_filter_le (fun k => !PyData.eqv (stdK W k) (stdK V k)) (List.range n)
  rw [List.length_range] at this
  exact this
theorem stL_only {W V : WallS} {n i : Nat} (tf : TfW W) (hn : n ≤ W.cur.boxes.length) (h : ∀ k, k ≠ i → boxOf V k = boxOf W k) : ∀ k ∈ stL W V n, k = i := fun k hk => by
  obtain ⟨h1, h2⟩ := List.mem_filter.mp hk
  by_cases c : k = i
  · exact c
  · have hk2 : k < n := List.mem_range.mp h1
    have e : stdK V k = stdK W k := by unfold stdK; rw [h k c]
    rw [e] at h2
    have := (sm_std (ys := srt (boxOf W k)) (tf _ (boxOf_mem (by omega : k < W.cur.boxes.length)))).refl
    unfold stdK at h2
    rw [this] at h2
    cases h2
theorem stL_none {W V : WallS} {n : Nat} (tf : TfW W) (hn : n ≤ W.cur.boxes.length) (h : ∀ k, boxOf V k = boxOf W k) : stL W V n = [] := by
  refine List.eq_nil_iff_forall_not_mem.mpr fun k hk => ?_
  have h1 := stL_only (i := k + 1) tf hn (fun j _ => h j) k hk
  omega
def stI (W V : WallS) (n : Nat) : List Int := (stL W V n).map fun k : Nat => (k : Int)
theorem rep_ints {l : List Int} {q : Int} (h : ∀ p ∈ l, p = q) : (List.replicate l.length [V.int q]).flatten = l.map V.int := by
  induction l with
  | nil => rfl
  | cons a l ih =>
    rw [List.length_cons, List.replicate_succ, List.flatten_cons, ih (fun p hp => h p (List.mem_cons_of_mem _ hp)), List.map_cons, h a (by simp)]
    rfl
theorem eqv_nilZ (l : List Int) : PyData.eqv (.list (l.map PyData.int)) (.list []) = l.isEmpty := by
  cases l <;> rfl
theorem stI_none {W V : WallS} {n : Nat} (tf : TfW W) (hn : n ≤ W.cur.boxes.length) (h : ∀ k, boxOf V k = boxOf W k) : stI W V n = [] := by
  unfold stI
  rw [stL_none tf hn h]
  rfl
theorem stI_only {W V : WallS} {n i : Nat} (tf : TfW W) (hn : n ≤ W.cur.boxes.length) (h : ∀ k, k ≠ i → boxOf V k = boxOf W k) : ∀ z ∈ stI W V n, z = (i : Int) := fun z hz => by
  obtain ⟨k, hk, rfl⟩ := List.mem_map.mp hz
  rw [stL_only tf hn h k hk]
theorem atI_box {ps : List Addr} {p : Addr} {i : Nat} (h : ps[i]? = some p) : atI (ps.map V.ref) (i : Int) = some (.ref p) := atI_nat (by rw [List.getElem?_map, h]; rfl)
section
variable {P : Program} {w : World} {K : PySem.W.Frag} {mg : Str → Option Value} {base : Heap}
def sp_law_moved (K : PySem.W.Frag) : Sp := fun vs H Q _ => ∃ (sz ca ah bh hm : Addr) (v : V) (as : List Addr) (W : WallS) (lets had : List Int) (c : Call) (m : Nat), vs = [.ref sz, .ref ca, v, .ref ah, .ref bh, .ref hm] ∧
  SqT K H sz (W.sizes.map V.int) ∧ SqT K H ca c.vs ∧ CallOk W c ∧ c ≠ .day ∧ c ≠ .power ∧ DueAt as H v (callW W c).2 ∧ AhAt as H ah W.cur.boxes ∧ AhAt as H bh (callW W c).1.cur.boxes ∧ H hm = some (.lst ((callW W c).1.cur.given.map giV)) ∧
  Inv67 W lets had ∧ WSm W m ∧ m ≤ 50000 ∧ W.cur.given.length ≤ 3000 ∧ TfW W ∧ GoodB W.cur.rs ∧ ∀ H', Same H H' → Q (.bl true) H'
set_option maxHeartbeats 2000000 in
theorem ok_law_moved (T : Txt w K mg) {fd : FuncData} (F : FunD K d_law_moved.name d_law_moved.qual d_law_moved.params d_law_moved.body d_law_moved.scope (d_law_moved.dvs K) (d_law_moved.kws K) (He.fAd K d_law_moved.at_) fd) : FnOk P w K mg base C8.CX0 1 (He.fAd K d_law_moved.at_) fd ["sizes", "call", "told", "ahead", "behind", "homes"] (sp_law_moved K) := by
  refine F.ok sc_law_moved (fun vs H Q E h => ?_) (fun cdv A outer s H vs Q E hr h => ?_)
  · obtain ⟨sz, ca, ah, bh, hm, v, as, W, lets, had, c, m, rfl, _⟩ := h
    rfl
  · have hu := L2.hu_of hr
    obtain ⟨sz, ca, ah, bh, hm, v, as, W, lets, had, c, m, rfl, hsz, hca, hok, nd, np, due, hah, hbh, hhm, inv, sm, hm5, h3000, tf, hg, q⟩ := h
    refine ⟨_, (PSs.nox ((pss_cons (ps_setLc (i := 6) (own := [("at", 7)]) (g := (gName 7)) (by rfl) sc_law_moved.nd rfl rfl (sw_true rfl rfl rfl (by decide +kernel)) (pi_range1 (by rfl) T.range (pa_cons (pe_callB (My.len_seqK (K := K) rfl) (by rfl) T.len (by decide +kernel) (pa_cons (pv 0) pa_nil)) pa_nil)) (blkOk_by (N := N_law_moved) (sc := defScope s_law_moved) (by decide +kernel)) (fun _ _ _ _ _ => (pg_name (i := 7) sc_law_moved.nd rfl (by first | exact Or.inl rfl | exact Or.inr rfl))) (fun _ _ _ _ _ => (pts_one (pt_cmpR (My.neDK (K := K) rfl hr.units) (pe_ix (My.ix_listK (K := K) rfl) (pv 3) (pv 7) (fun _ _ => rfl)) (pe_ix (My.ix_listK (K := K) rfl) (pv 4) (pv 7) (fun _ _ => rfl)) (nomark _)))) (fun _ _ _ _ _ => (pv 7)))
  (pss_cons (ps_if (pt_cmpR op_eq (pe_ix (My.ix_tupK (K := K) rfl) (pv 1) pe_int (fun _ _ => rfl)) pe_str (nomark _))
  (pss_cons (ps_asg (pe_tup (pa_cons (pe_ix (My.ix_tupK (K := K) rfl) (pv 2) pe_int (fun _ _ => rfl)) (pa_cons (pe_ix (My.ix_tupK (K := K) rfl) (pv 2) pe_int (fun _ _ => rfl)) pa_nil))) (My.pg_tupK (K := K) (n := 2) rfl rfl (pgs_cons (pg_name (i := 7) sc_law_moved.nd rfl (by first | exact Or.inl rfl | exact Or.inr rfl)) (pgs_cons (pg_name (i := 8) sc_law_moved.nd rfl (by first | exact Or.inl rfl | exact Or.inr rfl)) pgs_nil))))
  (pss_cons (ps_if (pt_cmpR op_isN (pv 7) pe_non (nomark _))
  (pss_one (ps_ret (pe_and (pe_cmpR (My.eqDK (K := K) rfl hr.units) (pv 6) (pe_lst pa_nil) (nomark _)) (pe_one (pe_cmpR (My.eqDK (K := K) rfl hr.units) (pe_ix (My.ix_tupK (K := K) rfl) (pv 2) pe_int (fun _ _ => rfl)) (pe_lst pa_nil) (nomark _))))))
  pss_nil)
  (pss_cons (ps_if (PW.pt (pw_or (pt_cmpR op_ne (pe_ix (My.ix_tupK (K := K) rfl) (pe_ix (My.ix_listK (K := K) rfl) (pv 3) (pv 7) (fun _ _ => rfl)) pe_int (fun _ _ => rfl)) pe_str (nomark _)) (pw_or (pt_cmpR op_lt (pe_ix (My.ix_tupK (K := K) rfl) (pv 0) (pv 7) (fun _ _ => rfl)) (pe_ix (My.ix_tupK (K := K) rfl) (pv 1) pe_int (fun _ _ => rfl)) (nomark _)) (pw_or1 (pt_cmpR (My.neDK (K := K) rfl hr.units) (pe_lc (own := [("one", 9)]) (g := (gName 9)) (by rfl) sc_law_moved.nd (My.pi_listK (K := K) rfl (pv 6)) (blkOk_by (N := N_law_moved) (sc := defScope s_law_moved) (by decide +kernel)) (fun _ _ _ _ _ => (pg_name (i := 9) sc_law_moved.nd rfl (by first | exact Or.inl rfl | exact Or.inr rfl))) (fun _ _ _ _ _ => (pts_one (pt_cmpR op_ne (pv 9) (pv 7) (nomark _)))) (fun _ _ _ _ _ => (pv 9))) (pe_lst pa_nil) (nomark _))))))
  (pss_one (ps_ret pe_bl))
  pss_nil)
  (pss_cons (ps_set (i := 10) sc_law_moved.nd rfl (by first | exact Or.inl rfl | exact Or.inr rfl) (pe_ix (My.ix_listK (K := K) rfl) (pe_lst (pa_cons (pe_ix (My.ix_tupK (K := K) rfl) (pe_ix (My.ix_listK (K := K) rfl) (pv 3) (pv 7) (fun _ _ => rfl)) pe_int (fun _ _ => rfl)) (pa_cons (pe_op op_cat (pe_ix (My.ix_tupK (K := K) rfl) (pe_ix (My.ix_listK (K := K) rfl) (pv 3) (pv 7) (fun _ _ => rfl)) pe_int (fun _ _ => rfl)) (pe_lst (pa_cons (pv 8) pa_nil))) pa_nil))) (pe_callTy call_int1 (by rfl) T.int (by decide +kernel) (pa_cons (pe_ix (My.ix_tupK (K := K) rfl) (pv 1) pe_int (fun _ _ => rfl)) pa_nil)) (fun _ _ => rfl)))
  (pss_one (ps_ret (pe_and (pe_cmpR (My.op_inTD (K := K) rfl (My.units65 hr)) (pe_ix (My.ix_tupK (K := K) rfl) (pe_ix (My.ix_listK (K := K) rfl) (pv 4) (pv 7) (fun _ _ => rfl)) pe_int (fun _ _ => rfl)) (pe_tup (pa_cons (pe_ix (My.ix_tupK (K := K) rfl) (pe_ix (My.ix_listK (K := K) rfl) (pv 3) (pv 7) (fun _ _ => rfl)) pe_int (fun _ _ => rfl)) (pa_cons (pv 10) pa_nil))) (by rfl)) (pe_and (pe_cmpR op_eq (pe_ix (My.ix_tupK (K := K) rfl) (pe_ix (My.ix_listK (K := K) rfl) (pv 4) (pv 7) (fun _ _ => rfl)) pe_int (fun _ _ => rfl)) pe_int (nomark _)) (pe_one (pe_cmpR (My.eqDK (K := K) rfl hr.units) (pe_ix (My.ix_tupK (K := K) rfl) (pv 2) pe_int (fun _ _ => rfl)) (pe_op op_rep (pe_lst (pa_cons (pv 8) pa_nil)) (pe_callB (My.len_seqK (K := K) rfl) (by rfl) T.len (by decide +kernel) (pa_cons (pe_ix (My.ix_tupK (K := K) rfl) (pv 2) pe_int (fun _ _ => rfl)) pa_nil))) (nomark _)))))))))))
  pss_nil)
  (pss_cons (ps_if (pt_cmpR op_eq (pe_ix (My.ix_tupK (K := K) rfl) (pv 1) pe_int (fun _ _ => rfl)) pe_str (nomark _))
  (pss_cons (ps_set (i := 11) sc_law_moved.nd rfl (by first | exact Or.inl rfl | exact Or.inr rfl) (pe_ifExp (pt_val (pe_ix (My.ix_tupK (K := K) rfl) (pe_ix (My.ix_listK (K := K) rfl) (pv 3) (pe_ix (My.ix_tupK (K := K) rfl) (pv 1) pe_int (fun _ _ => rfl)) (fun _ _ => rfl)) pe_int (fun _ _ => rfl))) (pe_ix (My.ix_tupK (K := K) rfl) (pe_ix (My.ix_listK (K := K) rfl) (pv 3) (pe_ix (My.ix_tupK (K := K) rfl) (pv 1) pe_int (fun _ _ => rfl)) (fun _ _ => rfl)) pe_int (fun _ _ => rfl)) (pe_lst pa_nil)))
  (pss_cons (ps_set (i := 12) sc_law_moved.nd rfl (by first | exact Or.inl rfl | exact Or.inr rfl) (pe_ifExp (pt_cmpR (My.eqDK (K := K) rfl hr.units) (pv 11) (pe_lst pa_nil) (nomark _)) (pe_ix (My.ix_tupK (K := K) rfl) (pe_ix (My.ix_listK (K := K) rfl) (pv 3) (pe_ix (My.ix_tupK (K := K) rfl) (pv 1) pe_int (fun _ _ => rfl)) (fun _ _ => rfl)) pe_int (fun _ _ => rfl)) (pe_lst pa_nil)))
  (pss_one (ps_ret (pe_and (pe_cmpR (My.eqDK (K := K) rfl hr.units) (pv 2) (pv 11) (nomark _)) (pe_and (pe_cmpR (My.eqDK (K := K) rfl hr.units) (pe_ix (My.ix_tupK (K := K) rfl) (pe_ix (My.ix_listK (K := K) rfl) (pv 4) (pe_ix (My.ix_tupK (K := K) rfl) (pv 1) pe_int (fun _ _ => rfl)) (fun _ _ => rfl)) pe_int (fun _ _ => rfl)) (pv 12) (nomark _)) (pe_one (pe_cmpR (My.eqDK (K := K) rfl hr.units) (pe_lc (own := [("one", 9)]) (g := (gName 9)) (by rfl) sc_law_moved.nd (My.pi_listK (K := K) rfl (pv 6)) (blkOk_by (N := N_law_moved) (sc := defScope s_law_moved) (by decide +kernel)) (fun _ _ _ _ _ => (pg_name (i := 9) sc_law_moved.nd rfl (by first | exact Or.inl rfl | exact Or.inr rfl))) (fun _ _ _ _ _ => (pts_one (pt_cmpR op_ne (pv 9) (pe_ix (My.ix_tupK (K := K) rfl) (pv 1) pe_int (fun _ _ => rfl)) (nomark _)))) (fun _ _ _ _ _ => (pv 9))) (pe_lst pa_nil) (nomark _)))))))))
  pss_nil)
  (pss_cons (ps_set (i := 7) sc_law_moved.nd rfl (by first | exact Or.inl rfl | exact Or.inr rfl) (pe_ix (My.ix_listK (K := K) rfl) (pv 5) (pe_op op_sub (pe_ix (My.ix_tupK (K := K) rfl) (pv 1) pe_int (fun _ _ => rfl)) pe_int) (fun _ _ => rfl)))
  (pss_cons (ps_if (PW.pt (pw_or (pt_cmpR op_isN (pv 7) pe_non (nomark _)) (pw_or1 (pt_cmpR (My.notIn_seqK (K := K) rfl) (pe_ix (My.ix_tupK (K := K) rfl) (pv 1) pe_int (fun _ _ => rfl)) (pe_ix (My.ix_tupK (K := K) rfl) (pe_ix (My.ix_listK (K := K) rfl) (pv 3) (pv 7) (fun _ _ => rfl)) pe_int (fun _ _ => rfl)) (by rfl)))))
  (pss_one (ps_ret (pe_and (pe_cmpR (My.eqDK (K := K) rfl hr.units) (pv 2) (pe_tup (pa_cons (pe_lst pa_nil) (pa_cons pe_bl (pa_cons (pe_lst pa_nil) pa_nil)))) (nomark _)) (pe_one (pe_cmpR (My.eqDK (K := K) rfl hr.units) (pv 6) (pe_lst pa_nil) (nomark _))))))
  pss_nil)
  (pss_cons (ps_if (PW.pt (pw_or (pt_cmpR op_notBl (pe_ix (My.ix_tupK (K := K) rfl) (pv 2) pe_int (fun _ _ => rfl)) pe_bl (nomark _)) (pw_or (pt_cmpR (My.op_notInTD (K := K) rfl (My.units65 hr)) (pe_ix (My.ix_tupK (K := K) rfl) (pv 2) pe_int (fun _ _ => rfl)) (pe_tup (pa_cons (pe_lst pa_nil) (pa_cons (pe_ix (My.ix_tupK (K := K) rfl) (pe_ix (My.ix_listK (K := K) rfl) (pv 3) (pv 7) (fun _ _ => rfl)) pe_int (fun _ _ => rfl)) pa_nil))) (by rfl)) (pw_or1 (pt_cmpR (My.neDK (K := K) rfl hr.units) (pe_lc (own := [("one", 9)]) (g := (gName 9)) (by rfl) sc_law_moved.nd (My.pi_listK (K := K) rfl (pv 6)) (blkOk_by (N := N_law_moved) (sc := defScope s_law_moved) (by decide +kernel)) (fun _ _ _ _ _ => (pg_name (i := 9) sc_law_moved.nd rfl (by first | exact Or.inl rfl | exact Or.inr rfl))) (fun _ _ _ _ _ => (pts_one (pt_cmpR op_ne (pv 9) (pv 7) (nomark _)))) (fun _ _ _ _ _ => (pv 9))) (pe_lst pa_nil) (nomark _))))))
  (pss_one (ps_ret pe_bl))
  pss_nil)
  (pss_one (ps_ret (pe_cmpR (My.eqDK (K := K) rfl hr.units) (pe_ix (My.ix_tupK (K := K) rfl) (pe_ix (My.ix_listK (K := K) rfl) (pv 4) (pv 7) (fun _ _ => rfl)) pe_int (fun _ _ => rfl)) (pe_lc (own := [("one", 9)]) (g := (gName 9)) (by rfl) sc_law_moved.nd (My.pi_listK (K := K) rfl (pe_ix (My.ix_tupK (K := K) rfl) (pe_ix (My.ix_listK (K := K) rfl) (pv 3) (pv 7) (fun _ _ => rfl)) pe_int (fun _ _ => rfl))) (blkOk_by (N := N_law_moved) (sc := defScope s_law_moved) (by decide +kernel)) (fun _ _ _ _ _ => (pg_name (i := 9) sc_law_moved.nd rfl (by first | exact Or.inl rfl | exact Or.inr rfl))) (fun _ _ _ _ _ => (pts_one (pt_cmpR (My.notIn_seqK (K := K) rfl) (pv 9) (pe_ix (My.ix_tupK (K := K) rfl) (pv 2) pe_int (fun _ _ => rfl)) (by rfl)))) (fun _ _ _ _ _ => (pv 9))) (nomark _)))))))))))), ?_⟩
    have h12 := sm.b12
    have elen := sm.len
    have st := call_step inv.gok hok
    have tf2 : TfW (callW W c).1 := st.tfw hg tf
    have blen : (callW W c).1.cur.boxes.length = W.cur.boxes.length := st.len
    obtain ⟨ps, hps, nps, hpp⟩ := id hah
    obtain ⟨qs, hqs, nqs, hqq⟩ := id hbh
    have hpl := hpp.length
    have hql := hqq.length
    refine ⟨_, rfl, sz, _, rfl, .inr hsz, ((W.cur.boxes.length : Nat) : Int), by rw [List.length_map, elen], by omega, by omega, fun D hD => ?_⟩
    refine lc_range (lo := 0) (n := ((W.cur.boxes.length : Nat) : Int).toNat) (fun i H' => Same H H' ∧ H' D = some (.lst ((stI W (callW W c).1 i).map V.int))) ⟨same_new hD, upd_same⟩ ?_ ?_
    · rintro i H1 hi ⟨s1, hD1⟩
      have hi2 : i < W.cur.boxes.length := by omega
      have e0 : (0 : Int) + (i : Int) = (i : Int) := by omega
      rw [e0]
      obtain ⟨p, hp⟩ : ∃ p, ps[i]? = some p := ⟨ps[i]'(by omega), List.getElem?_eq_getElem (by omega)⟩
      obtain ⟨r, hr⟩ : ∃ r, qs[i]? = some r := ⟨qs[i]'(by omega), List.getElem?_eq_getElem (by omega)⟩
      obtain ⟨S, hSi, hStd⟩ := paired_at hpp hp
      obtain ⟨S2, hSi2, hStd2⟩ := paired_at hqq hr
      have d1 := (hStd.same s1).dp (K := K)
      have d2 := (hStd2.same s1).dp (K := K)
      rw [← boxOf_some hSi] at d1
      rw [← boxOf_some hSi2] at d2
      have m1 : Sm 2 (stdK W i) := sm_std (tf _ (boxOf_mem hi2))
      have m2 : Sm 2 (stdK (callW W c).1 i) := sm_std (tf2 _ (boxOf_mem (by omega)))
      refine ⟨rfl, ?_⟩
      refine ⟨_, rfl, _, rfl, _, _, _, _, rfl, rfl, SqL.of (s1 _ _ hps), atI_box hp, ?_⟩
      refine ⟨_, rfl, _, rfl, _, _, _, _, rfl, rfl, SqL.of (s1 _ _ hqs), atI_box hr, stdK W i, stdK (callW W c).1 i, d1, d2, m1.shaped (by decide), m2.shaped (by decide), _, rfl, ?_⟩
      have e1 := stL_succ W (callW W c).1 i
      have hle := stL_le (W := W) (V := (callW W c).1) (n := i)
      cases ev : PyData.eqv (stdK W i) (stdK (callW W c).1 i) with
      | true =>
        rw [if_pos ev, List.append_nil] at e1
        exact L2.iteF ⟨s1, by unfold stI at hD1 ⊢; rw [e1]; exact hD1⟩
      | false =>
        rw [if_neg (by rw [ev]; exact Bool.false_ne_true)] at e1
        refine L2.iteT ⟨_, rfl, _, hD1, by unfold stI; rw [List.length_map, List.length_map]; exact lt_line (by omega), same_upd s1 hD, ?_⟩
        unfold stI
        rw [upd_same, e1, List.map_append, List.map_append]
        rfl
    rintro H1 ⟨s1, hD1⟩
    rw [Int.toNat_natCast] at hD1
    have hsl : (stI W (callW W c).1 W.cur.boxes.length).length ≤ 12 := by
      unfold stI
      rw [List.length_map]
      exact Nat.le_trans stL_le h12
    have hps1 := s1 _ _ hps
    have hqs1 := s1 _ _ hqs
    have hpp1 := paired_map (fun _ _ _ x => StdOut.same s1 x) hpp
    have hqq1 := paired_map (fun _ _ _ x => StdOut.same s1 x) hqq
    have hca1 := same_tup s1 hca
    have hsz1 := same_tup s1 hsz
    have due1 := due.same s1
    have hhm1 := s1 _ _ hhm
    have q1 : ∀ H', Same H1 H' → Q (.bl true) H' := fun H' s => q H' (s1.trans s)
    show Ends.nx _ _ H1
    clear hps hqs hpp hqq hca hsz due hhm q hah hbh
    cases c with
    | day => exact absurd rfl nd
    | power => exact absurd rfl np
    | bring size l s =>
      refine cq_yes rfl hca1 rfl rfl ?_
      have due2 : DueAt as H1 v (.trip ((W.cur.given.length : Int) + 1) (bringW W size l s).2.1 (bringW W size l s).2.2) := due1
      obtain ⟨tt, tl, rfl, htt, htl⟩ := due2
      refine ⟨_, rfl, tt, _, ((1 : Nat) : Int), _, rfl, rfl, SqT.of htt, atI_nat rfl, _, rfl, tt, _, ((0 : Nat) : Int), _, rfl, rfl, SqT.of htt, atI_nat rfl, by show 2 ≤ sizeLine; decide, fun u hu => ?_⟩
      have yu := same_new (o := .tup [giV (bringW W size l s).2.1, .int ((W.cur.given.length : Int) + 1)]) hu
      refine ⟨_, _, rfl, SqT.of upd_same, rfl, ?_⟩
      generalize upd H1 u (.tup [giV (bringW W size l s).2.1, .int ((W.cur.given.length : Int) + 1)]) = G0 at yu ⊢
      cases hp : placeF W.sizes W.cur.boxes size with
      | none =>
        rw [bring_noW hp] at htt htl ⊢
        have e1 : (callW W (.bring size l s)).1 = giveW (remW W) none := congrArg Prod.fst (bring_noW hp)
        have hst0 : stI W (callW W (.bring size l s)).1 W.cur.boxes.length = [] := stI_none tf (Nat.le_refl _) (fun k => by rw [e1]; rfl)
        rw [hst0] at hD1
        refine ⟨_, _, rfl, _, _, rfl, rfl, ?_⟩
        refine ⟨_, rfl, rfl, _, rfl, L2.iteT ?_⟩
        refine ⟨_, rfl, Nat.zero_le _, fun a1 ha1 => ?_⟩
        have y1 := yu.trans (same_new (o := .lst []) ha1)
        refine ⟨.list [], .list [], nilD (y1 _ _ hD1), nilD upd_same, sm_nil.shaped (by decide), sm_nil.shaped (by decide), ?_⟩
        rw [sm_nil.refl]
        refine ⟨_, rfl, L2.iteT ?_⟩
        generalize upd G0 a1 (.lst []) = G1 at y1
        refine ⟨_, rfl, tt, _, ((2 : Nat) : Int), _, rfl, rfl, SqT.of (y1 _ _ htt), atI_nat rfl, Nat.zero_le _, fun a2 ha2 => ?_⟩
        have y2 := y1.trans (same_new (o := .lst []) ha2)
        refine ⟨.list [], .list [], nilD (y2 _ _ htl.1), nilD upd_same, sm_nil.shaped (by decide), sm_nil.shaped (by decide), ?_⟩
        rw [sm_nil.refl]
        exact q1 _ y2
      | some i =>
        obtain ⟨hf, hsize, hi⟩ := place_free hp
        rw [bring_putW hp] at htt htl ⊢
        have e1 : (callW W (.bring size l s)).1 = setBox (giveW (remW W) (some i)) i (bringF W.cur.rs ((W.cur.given.length : Int) + 1) l s (boxOf W i)).1 := congrArg Prod.fst (bring_putW hp)
        have hoth : ∀ z ∈ stI W (callW W (.bring size l s)).1 W.cur.boxes.length, z = (i : Int) := stI_only tf (Nat.le_refl _) (fun k hk => by rw [e1]; exact set_other hk)
        have hbi := inv.box i _ (boxOf_get hi)
        obtain ⟨hin, hage⟩ := bring_is (rs := W.cur.rs) (q := (W.cur.given.length : Int) + 1) (l := l) (s := s) hf
        have hmid := bring_mid (giv := W.cur.given ++ [some i]) (i := i) (lets := lets) (rs := W.cur.rs) (q := (W.cur.given.length : Int) + 1) (l := l) (s := s) hf ⟨Home.snoc.mpr (.inr ⟨rfl, rfl⟩), fun p z => by
          rcases Home.snoc.mp z with z | z
          · have := z.rng; omega
          · omega⟩ (fun p z => ⟨Home.snoc.mpr (.inl (hbi.val p z).1), (hbi.val p z).2⟩)
        have hlets : (bringF W.cur.rs ((W.cur.given.length : Int) + 1) l s (boxOf W i)).2.letters.length ≤ 100000 := by
          have := call_due (c := .bring size l s) hg sm inv.gok hok
          have e : (callW W (.bring size l s)).2 = .trip ((W.cur.given.length : Int) + 1) (some i) (bringF W.cur.rs ((W.cur.given.length : Int) + 1) l s (boxOf W i)).2.letters := by
            show DueS.trip _ (bringW W size l s).2.1 (bringW W size l s).2.2 = _
            rw [bring_putW hp]
          rw [e] at this
          exact this
        obtain ⟨p, hp1⟩ : ∃ p, ps[i]? = some p := ⟨ps[i]'(by omega), List.getElem?_eq_getElem (by omega)⟩
        obtain ⟨r, hr1⟩ : ∃ r, qs[i]? = some r := ⟨qs[i]'(by omega), List.getElem?_eq_getElem (by omega)⟩
        obtain ⟨S, hSi, hStd⟩ := paired_at hpp1 hp1
        obtain ⟨S2, hSi2, hStd2⟩ := paired_at hqq1 hr1
        obtain rfl := boxOf_some hSi
        have eS2 : S2 = (bringF W.cur.rs ((W.cur.given.length : Int) + 1) l s (boxOf W i)).1 := by
          have := boxOf_some hSi2
          rw [← this, e1]
          unfold boxOf setBox
          rw [List.getD_eq_getElem?_getD, List.getElem?_set_self (by exact hi)]
          rfl
        subst eS2
        have hinl : (boxOf W i).inside.length ≤ m := (sm.bd _ (boxOf_mem hi)).i
        obtain ⟨l1, l2, ys, h1, h2, h3, hpm, hpo, _⟩ := hStd
        obtain ⟨m1, m2, zs, g1, g2, g3, hqm, hqo, _⟩ := hStd2
        generalize hB : bringF W.cur.rs ((W.cur.given.length : Int) + 1) l s (boxOf W i) = B at *
        refine ⟨_, _, rfl, _, _, rfl, rfl, ?_⟩
        refine ⟨_, rfl, rfl, _, rfl, L2.iteF ?_⟩
        refine ⟨_, rfl, _, rfl, _, _, _, _, rfl, rfl, SqL.of (yu _ _ hps1), atI_box hp1, p, _, ((2 : Nat) : Int), _, rfl, rfl, SqT.of (yu _ _ h1), atI_nat rfl, rfl, _, rfl, ?_⟩
        rw [show (!decide (V.str (boxOf W i).tf = V.str "free")) = false by rw [str_eqT hf]; rfl]
        refine ⟨_, rfl, _, rfl, sz, _, _, _, rfl, rfl, same_tup yu hsz1, atI_nat (v := .int (W.sizes.getD i 0)) (by rw [List.getElem?_map, List.getElem?_eq_getElem (by omega), List.getD_eq_getElem?_getD, List.getElem?_eq_getElem (by omega)]; rfl), ?_⟩
        refine ⟨_, rfl, ca, _, ((1 : Nat) : Int), _, rfl, rfl, same_tup yu hca1, atI_nat rfl, _, _, rfl, rfl, _, rfl, ?_⟩
        rw [decide_eq_false (show ¬ W.sizes.getD i 0 < size by omega)]
        refine ⟨_, rfl, D, rfl, ⟨_, SqL.of (yu _ _ hD1)⟩, fun E hE => ?_⟩
        refine lc_list (K := K) (a := D) (xs := (stI W (callW W (.bring size l s)).1 W.cur.boxes.length).map V.int) (fun _ H' => Same G0 H' ∧ H' E = some (.lst [])) ⟨same_new hE, upd_same⟩ (fun _ H' _ z => SqL.of (z.1 _ _ (yu _ _ hD1))) ?_ ?_
        · rintro j y H7 hj ⟨s7, hD7⟩
          obtain ⟨z, hz, rfl⟩ := map_get hj
          obtain rfl := hoth z (List.mem_of_getElem? hz)
          refine ⟨rfl, ?_⟩
          refine ⟨_, rfl, _, rfl, rfl, _, rfl, ?_⟩
          rw [show (!decide (V.int (i : Int) = giV (some i))) = false by simp [giV]]
          exact L2.iteF ⟨s7, hD7⟩
        rintro H7 ⟨s7, hD7⟩
        refine ⟨Nat.zero_le _, fun e9 he9 => ?_⟩
        have t5 := s7.trans (same_new (o := .lst []) he9)
        refine ⟨.list [], .list [], nilD (same_new he9 _ _ hD7), nilD upd_same, sm_nil.shaped (by decide), sm_nil.shaped (by decide), ?_⟩
        rw [sm_nil.refl]
        refine ⟨_, rfl, L2.iteF ?_⟩
        generalize upd H7 e9 (.lst []) = G2 at t5
        have y2 := yu.trans t5
        -- what lies inside then
        refine ⟨_, rfl, _, rfl, _, _, _, _, rfl, rfl, SqL.of (y2 _ _ hps1), atI_box hp1, p, _, ((1 : Nat) : Int), _, rfl, rfl, SqT.of (y2 _ _ h1), atI_nat rfl, ?_⟩
        refine ⟨_, rfl, _, rfl, _, _, _, _, rfl, rfl, SqL.of (y2 _ _ hps1), atI_box hp1, p, _, ((1 : Nat) : Int), _, rfl, rfl, SqT.of (y2 _ _ h1), atI_nat rfl, ?_⟩
        refine ⟨_, rfl, by show 1 ≤ sizeLine; decide, fun c1 hc1 => ?_⟩
        have y3 := y2.trans (same_new (o := .lst [V.int ((W.cur.given.length : Int) + 1)]) hc1)
        refine ⟨l1, c1, _, _, rfl, rfl, y3 _ _ h2, upd_same, by rw [List.length_map]; exact Nat.le_of_lt (lt_line (by simp only [List.length_singleton]; omega)), fun c2 hc2 => ?_⟩
        have e12 : (boxOf W i).inside.map V.int ++ [V.int ((W.cur.given.length : Int) + 1)] = ((boxOf W i).inside ++ [(W.cur.given.length : Int) + 1]).map V.int := by rw [List.map_append]; rfl
        rw [e12]
        have y4 := y3.trans (same_new (o := .lst (((boxOf W i).inside ++ [(W.cur.given.length : Int) + 1]).map V.int)) hc2)
        have hc2' : upd (upd G2 c1 (.lst [V.int ((W.cur.given.length : Int) + 1)])) c2 (.lst (((boxOf W i).inside ++ [(W.cur.given.length : Int) + 1]).map V.int)) c2 = some (.lst (((boxOf W i).inside ++ [(W.cur.given.length : Int) + 1]).map V.int)) := upd_same
        generalize upd (upd G2 c1 (.lst [V.int ((W.cur.given.length : Int) + 1)])) c2 (.lst (((boxOf W i).inside ++ [(W.cur.given.length : Int) + 1]).map V.int)) = G3 at y4 hc2'
        refine ⟨by show 2 ≤ sizeLine; decide, fun c3 hc3 => ?_⟩
        have z5 := same_new (o := .lst [V.ref l1, V.ref c2]) hc3
        have y5 := y4.trans z5
        refine ⟨_, rfl, ca, _, ((2 : Nat) : Int), _, rfl, rfl, same_tup y5 hca1, atI_nat rfl, .inr ⟨_, rfl, ?_⟩⟩
        have hc3' : upd G3 c3 (.lst [V.ref l1, V.ref c2]) c3 = some (.lst [V.ref l1, V.ref c2]) := upd_same
        have pick : ∃ (X : Addr) (xs : List Int), atI [V.ref l1, V.ref c2] (if l = true then 1 else 0) = some (.ref X) ∧ (∀ H', Same G3 H' → H' X = some (.lst (xs.map V.int))) ∧ (B.1.inside = (boxOf W i).inside ∨ B.1.inside = xs) := by
          cases l with
          | false => exact ⟨l1, (boxOf W i).inside, rfl, fun H' s => s _ _ (y4 _ _ h2), .inl (hin.elim id fun z => (nomatch z.1))⟩
          | true => exact ⟨c2, (boxOf W i).inside ++ [(W.cur.given.length : Int) + 1], rfl, fun H' s => s _ _ hc2', hin.imp id (fun z => z.2)⟩
        obtain ⟨X, xs, hat, hXs, hinX⟩ := pick
        refine ⟨c3, _, _, _, rfl, rfl, SqL.of hc3', hat, ?_⟩
        generalize upd G3 c3 (.lst [V.ref l1, V.ref c2]) = G4 at y5 z5
        refine ⟨_, rfl, _, rfl, _, _, _, _, rfl, rfl, SqL.of (y5 _ _ hqs1), atI_box hr1, r, _, ((1 : Nat) : Int), _, rfl, rfl, SqT.of (y5 _ _ g1), atI_nat rfl, ?_⟩
        refine ⟨_, rfl, _, rfl, _, _, _, _, rfl, rfl, SqL.of (y5 _ _ hps1), atI_box hp1, p, _, ((1 : Nat) : Int), _, rfl, rfl, SqT.of (y5 _ _ h1), atI_nat rfl, ?_⟩
        refine ⟨_, rfl, by show 2 ≤ sizeLine; decide, fun c4 hc4 => ?_⟩
        have z6 := same_new (o := .tup [V.ref l1, V.ref X]) hc4
        have y6 := y5.trans z6
        refine ⟨.list (B.1.inside.map PyData.int), [.list ((boxOf W i).inside.map PyData.int), .list (xs.map PyData.int)], dp_intsZ (y6 _ _ g2), .tup (SqT.of upd_same) (.cons (dp_intsZ (y6 _ _ h2)) (.cons (dp_intsZ (hXs _ (z5.trans z6))) .nil)), (sm_ints _).shaped (by decide), (sm_tuple (n := 1) fun d hd => by
          simp only [List.mem_cons, List.not_mem_nil, or_false] at hd
          rcases hd with rfl | rfl <;> exact sm_ints _).shaped (by decide), ?_⟩
        have hany : ([PyData.list ((boxOf W i).inside.map PyData.int), .list (xs.map PyData.int)].any fun z => PyData.eqv z (.list (B.1.inside.map PyData.int))) = true := by
          rcases hinX with e | e
          · rw [e, List.any_cons, (sm_ints _).refl]; rfl
          · rw [e, List.any_cons, List.any_cons, (sm_ints xs).refl, Bool.true_or, Bool.or_true]
        rw [hany]
        generalize upd G4 c4 (.tup [V.ref l1, V.ref X]) = G5 at y6
        refine ⟨_, rfl, L2.iteT ?_⟩
        refine ⟨_, rfl, _, rfl, _, _, _, _, rfl, rfl, SqL.of (y6 _ _ hqs1), atI_box hr1, r, _, ((4 : Nat) : Int), _, rfl, rfl, SqT.of (y6 _ _ g1), atI_nat rfl, ?_⟩
        rw [hage]
        refine ⟨rfl, ?_⟩
        refine ⟨_, rfl, L2.iteT ?_⟩
        refine ⟨_, rfl, tt, _, ((2 : Nat) : Int), _, rfl, rfl, SqT.of (y6 _ _ htt), atI_nat rfl, ?_⟩
        refine ⟨_, rfl, by show 1 ≤ sizeLine; decide, fun c5 hc5 => ?_⟩
        have htl1 : H1 tl = some (.lst (B.2.letters.map V.int)) := htl.1
        have y7 := y6.trans (same_new (o := .lst [V.int ((W.cur.given.length : Int) + 1)]) hc5)
        refine ⟨_, rfl, tt, _, ((2 : Nat) : Int), _, rfl, rfl, SqT.of (y7 _ _ htt), atI_nat rfl, tl, _, rfl, .inl (SqL.of (y7 _ _ htl1)), c5, _, _, rfl, rfl, upd_same, by omega, by rw [List.length_map]; omega, ?_, fun c6 hc6 => ?_⟩
        · rw [Int.toNat_natCast, List.length_map]
          exact Nat.le_of_lt (lt_line (by simp only [List.length_singleton]; omega))
        rw [Int.toNat_natCast, List.length_map, rep_ints (fun p hp => (Option.some.inj (hmid.lt p hp)).symm)]
        have y8 := y7.trans (same_new (o := .lst (B.2.letters.map V.int)) hc6)
        refine ⟨.list (B.2.letters.map PyData.int), .list (B.2.letters.map PyData.int), dp_intsZ (y8 _ _ htl1), dp_intsZ upd_same, (sm_ints _).shaped (by decide), (sm_ints _).shaped (by decide), ?_⟩
        rw [(sm_ints _).refl]
        exact q1 _ y8
    | pass i =>
      refine cq_no rfl hca1 rfl nPB (cq_yes rfl hca1 rfl rfl ?_)
      have hi : i < W.cur.boxes.length := hok
      have due2 : DueAt as H1 v (.lst (passW W i).2.got) := due1
      obtain ⟨tl, rfl, htl⟩ := due2
      have e1 : (callW W (.pass i)).1 = setBox (remW W) i (passBy (boxOf W i)).1 := rfl
      have hoth : ∀ z ∈ stI W (callW W (.pass i)).1 W.cur.boxes.length, z = (i : Int) := stI_only tf (Nat.le_refl _) (fun k hk => by rw [e1]; exact set_other hk)
      obtain ⟨p, hp1⟩ : ∃ p, ps[i]? = some p := ⟨ps[i]'(by omega), List.getElem?_eq_getElem (by omega)⟩
      obtain ⟨r, hr1⟩ : ∃ r, qs[i]? = some r := ⟨qs[i]'(by omega), List.getElem?_eq_getElem (by omega)⟩
      obtain ⟨S, hSi, hStd⟩ := paired_at hpp1 hp1
      obtain ⟨S2, hSi2, hStd2⟩ := paired_at hqq1 hr1
      obtain rfl := boxOf_some hSi
      have eS2 : S2 = (passBy (boxOf W i)).1 := by
        have := boxOf_some hSi2
        rw [← this, e1]
        unfold boxOf setBox
        rw [List.getD_eq_getElem?_getD, List.getElem?_set_self (by exact hi)]
        rfl
      subst eS2
      obtain ⟨l1, l2, ys, h1, h2, h3, hpm, hpo, _⟩ := hStd
      obtain ⟨m1, m2, zs, g1, g2, g3, hqm, hqo, _⟩ := hStd2
      obtain ⟨b1, b2, _, _⟩ := pass_is (S := boxOf W i)
      have htl1 : H1 tl = some (.lst ((passBy (boxOf W i)).2.got.map V.int)) := htl.1
      rw [b1] at htl1
      rw [b2] at g2
      have rest : ∀ (G : Hp) (dv kv : Addr), Same H1 G → G dv = some (.lst ((if (boxOf W i).ajar = true then (boxOf W i).inside else []).map V.int)) → G kv = some (.lst ((if (boxOf W i).ajar = true then [] else (boxOf W i).inside).map V.int)) →
          ∀ Dn : Ends, Dn.rt = Q → (tRet
                    (tAndV (tOp (rEqD K) (tVar 2) (tVar 11))
                      (tAndV
                        (tOp (rEqD K)
                          (tOp (rIxT K) (tOp (rIxL K) (tVar 4) (tOp (rIxT K) (tVar 1) (tC (V.int 1)))) (tC (V.int 1)))
                          (tVar 12))
                        (tOp (rEqD K)
                          (tLc (iList K (tVar 6)) (gName 9)
                            (tTest (tOp rNe (tVar 9) (tOp (rIxT K) (tVar 1) (tC (V.int 1))))) (tVar 9)
                            (List.map (fun x => x.snd) [(Str.ofString "one", 9)]))
                          (tLst tNil))))) Dn [some (.ref sz), some (.ref ca), some (.ref tl), some (.ref ah), some (.ref bh), some (.ref hm), some (.ref D), none, none, none, none, some (.ref dv), some (.ref kv)] G := by
        intro G dv kv s hdv hkv Dn hDn
        refine ⟨_, rfl, _, rfl, _, _, dp_intsZ (s _ _ htl1), dp_intsZ hdv, (sm_ints _).shaped (by decide), (sm_ints _).shaped (by decide), ?_⟩
        rw [(sm_ints _).refl]
        refine ⟨_, rfl, L2.iteT ?_⟩
        refine ⟨_, rfl, _, rfl, ca, _, ((1 : Nat) : Int), _, rfl, rfl, same_tup s hca1, atI_nat rfl, _, _, _, _, rfl, rfl, SqL.of (s _ _ hqs1), atI_box hr1, r, _, ((1 : Nat) : Int), _, rfl, rfl, SqT.of (s _ _ g1), atI_nat rfl, ?_⟩
        refine ⟨_, rfl, _, _, dp_intsZ (s _ _ g2), dp_intsZ hkv, (sm_ints _).shaped (by decide), (sm_ints _).shaped (by decide), ?_⟩
        rw [(sm_ints _).refl]
        refine ⟨_, rfl, L2.iteT ?_⟩
        refine ⟨_, rfl, D, rfl, ⟨_, SqL.of (s _ _ hD1)⟩, fun E hE => ?_⟩
        refine lc_list (K := K) (a := D) (xs := (stI W (callW W (.pass i)).1 W.cur.boxes.length).map V.int) (fun _ H' => Same G H' ∧ H' E = some (.lst [])) ⟨same_new hE, upd_same⟩ (fun _ H' _ z => SqL.of (z.1 _ _ (s _ _ hD1))) ?_ ?_
        · rintro j y H7 hj ⟨s7, hD7⟩
          obtain ⟨z, hz, rfl⟩ := map_get hj
          obtain rfl := hoth z (List.mem_of_getElem? hz)
          refine ⟨rfl, ?_⟩
          refine ⟨_, rfl, _, rfl, ca, _, ((1 : Nat) : Int), _, rfl, rfl, same_tup (s.trans s7) hca1, atI_nat rfl, rfl, _, rfl, ?_⟩
          rw [show (!decide (V.int (i : Int) = V.int (i : Int))) = false by simp]
          exact L2.iteF ⟨s7, hD7⟩
        rintro H7 ⟨s7, hD7⟩
        refine ⟨Nat.zero_le _, fun e9 he9 => ?_⟩
        refine ⟨.list [], .list [], nilD (same_new he9 _ _ hD7), nilD upd_same, sm_nil.shaped (by decide), sm_nil.shaped (by decide), ?_⟩
        rw [sm_nil.refl]
        rw [hDn]
        exact q1 _ ((s.trans s7).trans (same_new he9))
      refine ⟨_, rfl, _, rfl, ca, _, ((1 : Nat) : Int), _, rfl, rfl, hca1, atI_nat rfl, _, _, _, _, rfl, rfl, SqL.of hps1, atI_box hp1, p, _, ((0 : Nat) : Int), _, rfl, rfl, SqT.of h1, atI_nat rfl, ?_⟩
      refine ⟨_, rfl, ?_⟩
      cases ha : (boxOf W i).ajar with
      | true =>
        have iT : ∀ (a b : List Int), (if true = true then a else b) = a := fun a b => if_pos rfl
        simp only [ha, iT] at rest
        refine L2.iteT ?_
        refine ⟨_, rfl, _, rfl, ca, _, ((1 : Nat) : Int), _, rfl, rfl, hca1, atI_nat rfl, _, _, _, _, rfl, rfl, SqL.of hps1, atI_box hp1, p, _, ((1 : Nat) : Int), _, rfl, rfl, SqT.of h1, atI_nat rfl, ?_⟩
        refine ⟨_, rfl, Nat.zero_le _, fun a1 ha1 => ?_⟩
        have y1 := same_new (o := .lst []) ha1
        refine ⟨_, _, dp_intsZ (y1 _ _ h2), nilD upd_same, (sm_ints _).shaped (by decide), sm_nil.shaped (by decide), ?_⟩
        rw [eqv_nilZ]
        generalize upd H1 a1 (.lst []) = G1 at y1
        refine ⟨_, rfl, ?_⟩
        cases hi0 : (boxOf W i).inside with
        | nil =>
          refine L2.iteT ?_
          refine ⟨_, rfl, _, rfl, ca, _, ((1 : Nat) : Int), _, rfl, rfl, same_tup y1 hca1, atI_nat rfl, _, _, _, _, rfl, rfl, SqL.of (y1 _ _ hps1), atI_box hp1, p, _, ((1 : Nat) : Int), _, rfl, rfl, SqT.of (y1 _ _ h1), atI_nat rfl, ?_⟩
          exact rest G1 l1 l1 y1 (y1 _ _ h2) (by rw [y1 _ _ h2, hi0]; rfl) _ rfl
        | cons z zs =>
          refine L2.iteF ?_
          refine ⟨Nat.zero_le _, fun a2 ha2 => ?_⟩
          have y2 := y1.trans (same_new (o := .lst []) ha2)
          exact rest _ l1 a2 y2 (y2 _ _ h2) upd_same _ rfl
      | false =>
        have iF : ∀ (a b : List Int), (if false = true then a else b) = b := fun a b => if_neg Bool.false_ne_true
        simp only [ha, iF] at rest
        refine L2.iteF ?_
        refine ⟨Nat.zero_le _, fun a0 ha0 => ?_⟩
        have y0 := same_new (o := .lst []) ha0
        have k0 : upd H1 a0 (.lst []) a0 = some (.lst []) := upd_same
        generalize upd H1 a0 (.lst []) = G0 at y0 k0
        refine ⟨_, rfl, Nat.zero_le _, fun a1 ha1 => ?_⟩
        have y1 := y0.trans (same_new (o := .lst []) ha1)
        refine ⟨_, _, nilD (same_new ha1 _ _ k0), nilD upd_same, sm_nil.shaped (by decide), sm_nil.shaped (by decide), ?_⟩
        rw [sm_nil.refl]
        have k1 := same_new (o := .lst []) ha1 _ _ k0
        generalize upd G0 a1 (.lst []) = G1 at y1 k1
        refine ⟨_, rfl, L2.iteT ?_⟩
        refine ⟨_, rfl, _, rfl, ca, _, ((1 : Nat) : Int), _, rfl, rfl, same_tup y1 hca1, atI_nat rfl, _, _, _, _, rfl, rfl, SqL.of (y1 _ _ hps1), atI_box hp1, p, _, ((1 : Nat) : Int), _, rfl, rfl, SqT.of (y1 _ _ h1), atI_nat rfl, ?_⟩
        exact rest G1 a0 l1 y1 k1 (y1 _ _ h2) _ rfl
    | code p t s =>
      refine cq_no rfl hca1 rfl nCB (cq_no rfl hca1 rfl (show ("code" : Str) ≠ "pass" by decide) ?_)
      obtain ⟨p1, p2⟩ := id hok
      have due2 : DueAt as H1 v (.rep (codeW W p t s).2.letters (codeW W p t s).2.opened (codeW W p t s).2.got) := due1
      obtain ⟨tt, la, lb, rfl, htt, htl, htg⟩ := due2
      have egv : (callW W (.code p t s)).1.cur.given = W.cur.given := by
        show (codeW W p t s).1.cur.given = _
        unfold codeW
        split <;> rfl
      rw [egv] at hhm1
      obtain ⟨j, hj, ej⟩ : ∃ j : Nat, j < W.cur.given.length ∧ p - 1 = (j : Int) := ⟨(p - 1).toNat, by omega, by omega⟩
      have hjv : W.cur.given[j]? = some W.cur.given[j] := List.getElem?_eq_getElem hj
      have hh : homeOf W p = W.cur.given[j] := by
        unfold homeOf
        rw [ej, Int.toNat_natCast, hjv]
        rfl
      have nothing : ∀ (G : Hp) (u7 : Option V), Same H1 G → H1 tt = some (.tup [.ref la, .bl false, .ref lb]) → H1 la = some (.lst []) → H1 lb = some (.lst []) → H1 D = some (.lst []) →
          ∀ Dn : Ends, Dn.rt = Q → (tRet
                    (tAndV
                      (tOp (rEqD K) (tVar 2) (tTup (tCons (tLst tNil) (tCons (tC (V.bl false)) (tCons (tLst tNil) tNil)))))
                      (tOp (rEqD K) (tVar 6) (tLst tNil)))) Dn [some (.ref sz), some (.ref ca), some (.ref tt), some (.ref ah), some (.ref bh), some (.ref hm), some (.ref D), u7, none, none, none, none, none] G := by
        intro G u7 s k1 k2 k3 k4 Dn hDn
        refine ⟨_, rfl, Nat.zero_le _, fun a1 ha1 => ?_⟩
        refine ⟨Nat.zero_le _, fun a2 ha2 => ?_⟩
        refine ⟨by show 3 ≤ sizeLine; decide, fun a3 ha3 => ?_⟩
        have x1 := same_new (o := .lst []) ha1
        have x2 := same_new (o := .lst []) ha2
        have x3 := same_new (o := .tup [V.ref a1, .bl false, .ref a2]) ha3
        have y3 := s.trans ((x1.trans x2).trans x3)
        have hd : ∀ b : Bool, Sm 2 (PyData.tuple [.list [], .bool b, .list []]) := fun b => sm_tuple fun d hd => by
          simp only [List.mem_cons, List.not_mem_nil, or_false] at hd
          rcases hd with rfl | rfl | rfl
          · exact sm_nil
          · exact (sm_bool _).mono (by decide)
          · exact sm_nil
        refine ⟨.tuple [.list [], .bool false, .list []], .tuple [.list [], .bool false, .list []], .tup (SqT.of (y3 _ _ k1)) (.cons (nilD (y3 _ _ k2)) (.cons (.bl _) (.cons (nilD (y3 _ _ k3)) .nil))), .tup (SqT.of upd_same) (.cons (nilD (x3 _ _ (x2 _ _ upd_same))) (.cons (.bl _) (.cons (nilD (x3 _ _ upd_same)) .nil))), (hd _).shaped (by decide), (hd _).shaped (by decide), ?_⟩
        rw [(hd _).refl]
        refine ⟨_, rfl, L2.iteT ?_⟩
        generalize upd (upd (upd G a1 (.lst [])) a2 (.lst [])) a3 (.tup [V.ref a1, .bl false, .ref a2]) = G3 at y3
        refine ⟨_, rfl, Nat.zero_le _, fun a4 ha4 => ?_⟩
        have y4 := y3.trans (same_new (o := .lst []) ha4)
        refine ⟨.list [], .list [], nilD (y4 _ _ k4), nilD upd_same, sm_nil.shaped (by decide), sm_nil.shaped (by decide), ?_⟩
        rw [sm_nil.refl, hDn]
        exact q1 _ y4
      refine ⟨_, rfl, _, rfl, ca, _, ((1 : Nat) : Int), _, rfl, rfl, hca1, atI_nat rfl, _, _, rfl, rfl, hm, _, _, _, rfl, rfl, SqL.of hhm1, (by rw [ej]; exact atI_nat (by rw [List.getElem?_map, hjv]; rfl)), ?_⟩
      cases hpf : W.cur.given[j] with
      | none =>
        rw [hpf] at hh
        have eb : codeW W p t s = (remW W, T0) := code_noW hh
        have e1 : (callW W (.code p t s)).1 = remW W := congrArg Prod.fst eb
        have hst0 : stI W (callW W (.code p t s)).1 W.cur.boxes.length = [] := stI_none tf (Nat.le_refl _) (fun k => by rw [e1]; rfl)
        rw [hst0] at hD1
        rw [eb] at htt htl htg
        refine ⟨_, rfl, rfl, _, rfl, ?_⟩
        exact nothing H1 _ (Same.refl _) htt htl.1 htg.1 hD1 _ rfl
      | some i =>
        rw [hpf] at hh
        have hi : i < W.cur.boxes.length := inv.gok i (by rw [← hpf]; exact List.getElem_mem hj)
        have eb := code_putW (t := t) (s := s) hh
        have e1 : (callW W (.code p t s)).1 = setBox (remW W) i (codeF W.cur.rs p t s (boxOf W i)).1 := congrArg Prod.fst eb
        rw [eb] at htt htl htg
        have hoth : ∀ z ∈ stI W (callW W (.code p t s)).1 W.cur.boxes.length, z = (i : Int) := stI_only tf (Nat.le_refl _) (fun k hk => by rw [e1]; exact set_other hk)
        obtain ⟨pa, hp1⟩ : ∃ p, ps[i]? = some p := ⟨ps[i]'(by omega), List.getElem?_eq_getElem (by omega)⟩
        obtain ⟨r, hr1⟩ : ∃ r, qs[i]? = some r := ⟨qs[i]'(by omega), List.getElem?_eq_getElem (by omega)⟩
        obtain ⟨S, hSi, hStd⟩ := paired_at hpp1 hp1
        obtain ⟨S2, hSi2, hStd2⟩ := paired_at hqq1 hr1
        obtain rfl := boxOf_some hSi
        have bself : boxOf (callW W (.code p t s)).1 i = (codeF W.cur.rs p t s (boxOf W i)).1 := by
          rw [e1]
          unfold boxOf setBox
          rw [List.getD_eq_getElem?_getD, List.getElem?_set_self (by exact hi)]
          rfl
        have eS2 : S2 = (codeF W.cur.rs p t s (boxOf W i)).1 := (boxOf_some hSi2).symm.trans bself
        subst eS2
        obtain ⟨l1, l2, ys, h1, h2, h3, hpm, hpo, _⟩ := hStd
        obtain ⟨m1, m2, zs, g1, g2, g3, hqm, hqo, _⟩ := hStd2
        have hinl : (boxOf W i).inside.length ≤ m := (sm.bd _ (boxOf_mem hi)).i
        refine ⟨_, rfl, rfl, _, rfl, ?_⟩
        rw [show decide (giV (some i) = V.non) = false from decide_eq_false (fun z => (nomatch z))]
        refine ⟨_, rfl, ca, _, ((1 : Nat) : Int), _, rfl, rfl, hca1, atI_nat rfl, _, rfl, _, rfl, _, _, _, _, rfl, rfl, SqL.of hps1, atI_box hp1, pa, _, ((3 : Nat) : Int), _, rfl, rfl, SqT.of h1, atI_nat rfl, l2, _, rfl, .inl (SqL.of h3), rfl, all_flat_int _, _, rfl, ?_⟩
        rw [if_pos rfl, inV_int]
        by_cases hv : p ∈ (boxOf W i).valid
        · rw [decide_eq_true (hpm.mem_iff.mpr hv)]
          refine L2.iteF ?_
          obtain ⟨hop, hgi⟩ := code_is (rs := W.cur.rs) (t := t) (s := s) hv
          generalize codeF W.cur.rs p t s (boxOf W i) = B at *
          have hgl : B.2.got.length ≤ m := by
            rcases hgi with ⟨e, _⟩ | ⟨e, _⟩
            · rw [e]; exact Nat.zero_le _
            · rw [e]; exact hinl
          have htg1 : H1 lb = some (.lst (B.2.got.map V.int)) := htg.1
          refine ⟨_, rfl, tt, _, ((1 : Nat) : Int), _, rfl, rfl, SqT.of htt, atI_nat rfl, ?_⟩
          refine ⟨_, _, rfl, rfl, _, rfl, ?_⟩
          rw [show (!decide (B.2.opened = true)) = false by rw [hop]; rfl]
          -- the list of what was had
          refine ⟨_, rfl, tt, _, ((2 : Nat) : Int), _, rfl, rfl, SqT.of htt, atI_nat rfl, ?_⟩
          refine ⟨Nat.zero_le _, fun a1 ha1 => ?_⟩
          have x1 := same_new (o := .lst []) ha1
          refine ⟨_, rfl, _, rfl, _, _, _, _, rfl, rfl, SqL.of (x1 _ _ hps1), atI_box hp1, pa, _, ((1 : Nat) : Int), _, rfl, rfl, SqT.of (x1 _ _ h1), atI_nat rfl, ?_⟩
          refine ⟨by show 2 ≤ sizeLine; decide, fun a2 ha2 => ?_⟩
          have x2 := same_new (o := .tup [V.ref a1, .ref l1]) ha2
          have x12 := x1.trans x2
          refine ⟨.list (B.2.got.map PyData.int), [.list [], .list ((boxOf W i).inside.map PyData.int)], dp_intsZ (x12 _ _ htg1), .tup (SqT.of upd_same) (.cons (nilD (x2 _ _ upd_same)) (.cons (dp_intsZ (x12 _ _ h2)) .nil)), (sm_ints _).shaped (by decide), (sm_tuple (n := 1) fun d hd => by
            simp only [List.mem_cons, List.not_mem_nil, or_false] at hd
            rcases hd with rfl | rfl
            · exact sm_nil
            · exact sm_ints _).shaped (by decide), ?_⟩
          have hany : ([PyData.list [], .list ((boxOf W i).inside.map PyData.int)].any fun z => PyData.eqv z (.list (B.2.got.map PyData.int))) = true := by
            rcases hgi with ⟨e, _⟩ | ⟨e, _⟩
            · rw [e, List.any_cons, List.map_nil, sm_nil.refl]; rfl
            · rw [e, List.any_cons, List.any_cons, (sm_ints _).refl, Bool.true_or, Bool.or_true]
          rw [hany]
          generalize upd (upd H1 a1 (.lst [])) a2 (.tup [V.ref a1, .ref l1]) = G1 at x12
          refine ⟨_, rfl, ?_⟩
          refine ⟨_, rfl, D, rfl, ⟨_, SqL.of (x12 _ _ hD1)⟩, fun E hE => ?_⟩
          refine lc_list (K := K) (a := D) (xs := (stI W (callW W (.code p t s)).1 W.cur.boxes.length).map V.int) (fun _ H' => Same G1 H' ∧ H' E = some (.lst [])) ⟨same_new hE, upd_same⟩ (fun _ H' _ z => SqL.of (z.1 _ _ (x12 _ _ hD1))) ?_ ?_
          · rintro j y H7 hj ⟨s7, hD7⟩
            obtain ⟨z, hz, rfl⟩ := map_get hj
            obtain rfl := hoth z (List.mem_of_getElem? hz)
            refine ⟨rfl, ?_⟩
            refine ⟨_, rfl, _, rfl, rfl, _, rfl, ?_⟩
            rw [show (!decide (V.int (i : Int) = giV (some i))) = false by simp [giV]]
            exact L2.iteF ⟨s7, hD7⟩
          rintro H7 ⟨s7, hD7⟩
          refine ⟨Nat.zero_le _, fun e9 he9 => ?_⟩
          have x3 := x12.trans (s7.trans (same_new (o := .lst []) he9))
          refine ⟨.list [], .list [], nilD (same_new he9 _ _ hD7), nilD upd_same, sm_nil.shaped (by decide), sm_nil.shaped (by decide), ?_⟩
          rw [sm_nil.refl]
          refine ⟨_, rfl, L2.iteF ?_⟩
          generalize upd H7 e9 (.lst []) = G2 at x3
          -- what is left
          refine ⟨_, rfl, _, rfl, _, _, _, _, rfl, rfl, SqL.of (x3 _ _ hqs1), atI_box hr1, r, _, ((1 : Nat) : Int), _, rfl, rfl, SqT.of (x3 _ _ g1), atI_nat rfl, ?_⟩
          refine ⟨_, rfl, _, rfl, _, _, _, _, rfl, rfl, SqL.of (x3 _ _ hps1), atI_box hp1, pa, _, ((1 : Nat) : Int), _, rfl, rfl, SqT.of (x3 _ _ h1), atI_nat rfl, ?_⟩
          have hfin : ∀ k, ((boxOf W i).inside.take k).filter (fun z => !decide (z ∈ B.2.got)) = if B.2.got = [] then (boxOf W i).inside.take k else [] := fun k => by
            rcases hgi with ⟨e, _⟩ | ⟨e, _⟩
            · rw [if_pos e, e]
              exact List.filter_eq_self.mpr fun a _ => by simp
            · split
              · rename_i e0
                rw [e0]
                exact List.filter_eq_self.mpr fun a _ => by simp
              · refine List.filter_eq_nil_iff.mpr fun a ha => ?_
                rw [e]
                simp [List.mem_of_mem_take ha]
          refine ⟨l1, rfl, ⟨_, SqL.of (x3 _ _ h2)⟩, fun E2 hE2 => ?_⟩
          refine lc_list (K := K) (a := l1) (xs := (boxOf W i).inside.map V.int) (fun k H' => Same G2 H' ∧ H' E2 = some (.lst ((((boxOf W i).inside.take k).filter (fun z => !decide (z ∈ B.2.got))).map V.int))) ⟨same_new hE2, upd_same⟩ (fun _ H' _ z => SqL.of (z.1 _ _ (x3 _ _ h2))) ?_ ?_
          · rintro k y H8 hk ⟨s8, hD8⟩
            obtain ⟨z, hz, rfl⟩ := map_get hk
            refine ⟨rfl, ?_⟩
            refine ⟨_, rfl, _, rfl, tt, _, ((2 : Nat) : Int), _, rfl, rfl, SqT.of (s8 _ _ (x3 _ _ htt)), atI_nat rfl, lb, _, rfl, .inl (SqL.of (s8 _ _ (x3 _ _ htg1))), rfl, all_flat_int _, _, rfl, ?_⟩
            rw [if_pos rfl, inV_int]
            have hle := List.length_filter_le (fun z => !decide (z ∈ B.2.got)) ((boxOf W i).inside.take k)
            rw [List.length_take] at hle
            by_cases cz : z ∈ B.2.got
            · rw [decide_eq_true cz]
              refine L2.iteF ⟨s8, ?_⟩
              rw [take_more hz, List.filter_append, List.filter_cons, if_neg (by simpa using cz), List.filter_nil, List.append_nil]
              exact hD8
            · rw [decide_eq_false cz]
              refine L2.iteT ⟨_, rfl, _, hD8, by rw [List.length_map]; exact lt_line (by omega), same_upd s8 hE2, ?_⟩
              rw [upd_same, take_more hz, List.filter_append, List.filter_cons, if_pos (by simpa using cz), List.filter_nil, List.map_append]
              rfl
          rintro H8 ⟨s8, hD8⟩
          rw [List.length_map, hfin, List.take_length] at hD8
          have x4 := x3.trans s8
          have he : B.1.inside = if B.2.got = [] then (boxOf W i).inside else [] := by
            rcases hgi with ⟨e, e'⟩ | ⟨e, e'⟩
            · rw [if_pos e, e']
            · rw [e']
              split
              · rename_i e0
                rw [← e, e0]
              · rfl
          rw [← he] at hD8
          refine ⟨_, _, dp_intsZ (x4 _ _ g2), dp_intsZ hD8, (sm_ints _).shaped (by decide), (sm_ints _).shaped (by decide), ?_⟩
          rw [(sm_ints _).refl]
          exact q1 _ x4
        · rw [decide_eq_false (fun z => hv (hpm.mem_iff.mp z))]
          obtain ⟨c1, c2, c3, c4⟩ := code_not (rs := W.cur.rs) (t := t) (s := s) hv
          have hst0 : stI W (callW W (.code p t s)).1 W.cur.boxes.length = [] := stI_none tf (Nat.le_refl _) (fun k => by
            by_cases e : k = i
            · rw [e, bself, c1]
            · rw [e1]; exact set_other e)
          rw [hst0] at hD1
          have htt' : H1 tt = some (.tup [.ref la, .bl false, .ref lb]) := by rw [htt, c3]
          have hla : H1 la = some (.lst []) := by rw [htl.1, c2]; rfl
          have hlb : H1 lb = some (.lst []) := by rw [htg.1, c4]; rfl
          refine L2.iteT ?_
          exact nothing H1 _ (Same.refl _) htt' hla hlb hD1 _ rfl
theorem c_law_moved (T : Txt w K mg) : C8.Cal P w K mg base 1 "_law_moved" (sp_law_moved K) [] := by
  obtain ⟨fd, F⟩ := T.f_law_moved
  exact ⟨_, fd, _, _, ok_law_moved T F, T.g_law_moved, F.kp, F.bindsN (fun _ _ _ _ _ _ us hl => match us, hl with | [_, _, _, _, _, _], _ => rfl), .nil⟩
end
end K67

namespace K67
open PySem PySem.Spec PyProof.Rows L2 My StX
/-! ### one call -/
theorem carry_lets (r : RuleL) (m : Str) (x : BoxS × ToldS) (h : r.length ≤ 6) : (carry r m x).2.letters.length ≤ x.2.letters.length + 6 := by
  have h1 : (carry r m x).2.letters.length ≤ x.2.letters.length + r.length := fold_lets r _
  omega
theorem go_lets (s : Bool) (m1 m2 : Str) (r1 r2 : RuleL) (x : BoxS × ToldS) (h1 : r1.length ≤ 6) (h2 : r2.length ≤ 6) : (goAway s m1 m2 r1 r2 x).2.letters.length ≤ x.2.letters.length + 6 := by
  unfold goAway
  split
  · split
    · exact carry_lets _ _ ({ x.1 with ajar := false }, x.2) h1
    · exact carry_lets _ _ x h2
  · omega
theorem bring_lets {rs : List RuleL} (g : GoodB rs) {q : Int} {l s : Bool} {S : BoxS} : (bringF rs q l s S).2.letters.length ≤ 100 := by
  unfold bringF
  split
  · refine Nat.le_trans (go_lets _ _ _ _ _ _ (g.six (by decide)) (g.six (by decide))) ?_
    have e : ∀ x, (layIn q l x).2.letters = x.2.letters := fun x => by
      unfold layIn
      split <;> rfl
    rw [e]
    have : (carry (at_ rs 0) "given" ({ S with ajar := true, age := some 0, last := some q }, { T0 with opened := true })).2.letters.length ≤ 0 + 6 := carry_lets (at_ rs 0) "given" ({ S with ajar := true, age := some 0, last := some q }, { T0 with opened := true }) (g.six (by decide))
    omega
  · exact Nat.zero_le _
theorem code_lets {rs : List RuleL} (g : GoodB rs) {q : Int} {t s : Bool} {S : BoxS} : (codeF rs q t s S).2.letters.length ≤ 100 := by
  have ea : ∀ c wd x, (addW c wd x).2.letters = x.2.letters := fun c wd x => by
    unfold addW
    split <;> rfl
  have et : ∀ x, (takeIf q t x).2.letters = x.2.letters := fun x => by
    unfold takeIf
    split <;> rfl
  unfold codeF
  split
  · refine Nat.le_trans (go_lets _ _ _ _ _ _ (g.six (by decide)) (g.six (by decide))) ?_
    rw [ea, et]
    have : (carry (at_ rs 3) "opened" ({ S with ajar := true }, { T0 with opened := true })).2.letters.length ≤ 0 + 6 := carry_lets (at_ rs 3) "opened" ({ S with ajar := true }, { T0 with opened := true }) (g.six (by decide))
    omega
  · rw [ea]
    exact Nat.zero_le _
theorem letC_len {W : WallS} (g : GoodB W.cur.rs) (h12 : W.cur.boxes.length ≤ 12) (c : Call) : (letC W c).length ≤ 1200 := by
  cases c with
  | bring size l s =>
    show (bringW W size l s).2.2.length ≤ 1200
    unfold bringW
    split
    · exact Nat.zero_le _
    · exact Nat.le_trans (bring_lets g) (by decide)
  | code p t s =>
    show (codeW W p t s).2.letters.length ≤ 1200
    unfold codeW
    split
    · exact Nat.zero_le _
    · exact Nat.le_trans (code_lets g) (by decide)
  | pass i => exact Nat.zero_le _
  | day =>
    have := flat_le (f := fun S => (dayF W.cur.d W.cur.rs S).2.letters) (k := 100) (l := W.cur.boxes) (fun S _ => day_lets g _ S)
    show (W.cur.boxes.flatMap fun S => (dayF W.cur.d W.cur.rs S).2.letters).length ≤ 1200
    omega
  | power =>
    have := flat_le (f := fun S => (powerF W.cur.rs S).2.letters) (k := 100) (l := W.cur.boxes) (fun S _ => power_lets g S)
    show (W.cur.boxes.flatMap fun S => (powerF W.cur.rs S).2.letters).length ≤ 1200
    omega
theorem gotC_len {W : WallS} {lets had : List Int} {m : Nat} {c : Call} (h : Inv67 W lets had) (sm : WSm W m) (ok : CallOk W c) : (gotC W c).length ≤ m := by
  rcases h.got ok with e | ⟨i, S, hS, e⟩
  · rw [e]; exact Nat.zero_le _
  · rw [e]; exact (sm.bd S (List.mem_of_getElem? hS)).i
/-- the wall and the law's own three lists -/
structure S67 (K : PySem.W.Frag) (as : List Addr) (H : Hp) (x pl hm hd lt : Addr) (W : WallS) (giv : List (Option Nat)) (had lets : List Int) : Prop where
  wall : WallAt K as H x pl W
  live : ∀ a ∈ as, H a ≠ none
  hhm : H hm = some (.lst (giv.map giV))
  hhd : H hd = some (.lst (had.map V.int))
  hlt : H lt = some (.lst (lets.map V.int))
  ihm : hm ∈ as
  ihd : hd ∈ as
  ilt : lt ∈ as
  nd : [pl, hm, hd, lt].Nodup
section
variable {K : PySem.W.Frag} {as : List Addr} {H H' : Hp} {x pl hm hd lt : Addr} {W : WallS} {giv : List (Option Nat)} {had lets : List Int}
theorem S67.nes (h : S67 K as H x pl hm hd lt W giv had lets) : pl ≠ hm ∧ pl ≠ hd ∧ pl ≠ lt ∧ hm ≠ hd ∧ hm ≠ lt ∧ hd ≠ lt := by
  have := h.nd
  simp only [List.nodup_cons, List.mem_cons, List.not_mem_nil, or_false, not_or] at this
  obtain ⟨⟨a, b, c⟩, ⟨d, e⟩, f, _⟩ := this
  exact ⟨a, b, c, d, e, f⟩
theorem S67.xne (h : S67 K as H x pl hm hd lt W giv had lets) {c : Addr} {l : List V} (e : H c = some (.lst l)) : x ≠ c := fun z => by
  obtain ⟨dx, _, _, _, _, _, h1, _⟩ := h.wall
  rw [z, e] at h1
  cases h1
theorem S67.same (h : S67 K as H x pl hm hd lt W giv had lets) (s : Same H H') : S67 K as H' x pl hm hd lt W giv had lets :=
  ⟨h.wall.same s, fun a ha e => h.live a ha (s.free e), s _ _ h.hhm, s _ _ h.hhd, s _ _ h.hlt, h.ihm, h.ihd, h.ilt, h.nd⟩
theorem S67.one {c : Addr} {l : List V} (h : S67 K as H x pl hm hd lt W giv had lets) (e : H c = some (.lst l)) (i : c ∈ as) (np : pl ≠ c) (l' : List V) : WallAt K as (upd H c (.lst l')) x pl W ∧ (∀ a ∈ as, upd H c (.lst l') a ≠ none) := by
  have b : But [c] H (upd H c (.lst l')) := (But.refl _ _).put (.inr (by simp))
  refine ⟨h.wall.mut (fun d hd => by rw [List.mem_singleton.mp hd]; exact .inl ⟨i, _, e⟩) b (by simpa using h.xne e) (by simpa using np), fun a ha z => ?_⟩
  by_cases k : a = c
  · rw [k, upd_same] at z; cases z
  · rw [upd_ne k] at z; exact h.live a ha z
theorem S67.putM (h : S67 K as H x pl hm hd lt W giv had lets) (g2 : List (Option Nat)) : S67 K as (upd H hm (.lst (g2.map giV))) x pl hm hd lt W g2 had lets := by
  obtain ⟨a, b, c, d, e, f⟩ := h.nes
  obtain ⟨w1, w2⟩ := h.one h.hhm h.ihm a (g2.map giV)
  exact ⟨w1, w2, upd_same, (upd_ne d.symm).trans h.hhd, (upd_ne e.symm).trans h.hlt, h.ihm, h.ihd, h.ilt, h.nd⟩
theorem S67.putD (h : S67 K as H x pl hm hd lt W giv had lets) (g2 : List Int) : S67 K as (upd H hd (.lst (g2.map V.int))) x pl hm hd lt W giv g2 lets := by
  obtain ⟨a, b, c, d, e, f⟩ := h.nes
  obtain ⟨w1, w2⟩ := h.one h.hhd h.ihd b (g2.map V.int)
  exact ⟨w1, w2, (upd_ne d).trans h.hhm, upd_same, (upd_ne f.symm).trans h.hlt, h.ihm, h.ihd, h.ilt, h.nd⟩
theorem S67.putL (h : S67 K as H x pl hm hd lt W giv had lets) (g2 : List Int) : S67 K as (upd H lt (.lst (g2.map V.int))) x pl hm hd lt W giv had g2 := by
  obtain ⟨a, b, c, d, e, f⟩ := h.nes
  obtain ⟨w1, w2⟩ := h.one h.hlt h.ilt c (g2.map V.int)
  exact ⟨w1, w2, (upd_ne e).trans h.hhm, (upd_ne f).trans h.hhd, upd_same, h.ihm, h.ihd, h.ilt, h.nd⟩
theorem S67.mutM (h : S67 K as H x pl hm hd lt W giv had lets) : ∀ c ∈ [hm], Mut as H c := fun c hc => by rw [List.mem_singleton.mp hc]; exact .inl ⟨h.ihm, _, h.hhm⟩
theorem S67.mutL (h : S67 K as H x pl hm hd lt W giv had lets) : ∀ c ∈ [lt], Mut as H c := fun c hc => by rw [List.mem_singleton.mp hc]; exact .inl ⟨h.ilt, _, h.hlt⟩
end
section
variable {K : PySem.W.Frag} {σ : L2.St} {H : Hp} {hd w1 w2 : Str} {tb te rest : TS} {D : Ends} {t : Addr} {vs : List V} {k : Nat}
theorem cq_inT (g : σ[k]? = some (some (V.ref t))) (ht : SqT K H t vs) (hw : vs[0]? = some (.str hd)) (hb : inV (V.str hd) [V.str w1, V.str w2] = true) (q : ∀ H', Same H H' → tb { D with nx := rest D } σ H') : tSeq (tIfS (tTest (tOp (rIn K false) (tOp (rIxT K) (tVar k) (tC (V.int 0))) (tTup (tCons (tC (V.str w1)) (tCons (tC (V.str w2)) tNil))))) tb te) rest D σ H := by
  refine ⟨_, g, t, _, ((0 : Nat) : Int), _, rfl, rfl, ht, atI_nat hw, by show 2 ≤ sizeLine; decide, fun u hu => ?_⟩
  refine ⟨u, _, rfl, .inr (SqT.of upd_same), rfl, rfl, _, rfl, ?_⟩
  rw [if_neg Bool.false_ne_true, hb]
  exact q _ (same_new hu)
theorem cq_inF (g : σ[k]? = some (some (V.ref t))) (ht : SqT K H t vs) (hw : vs[0]? = some (.str hd)) (hb : inV (V.str hd) [V.str w1, V.str w2] = false) (q : ∀ H', Same H H' → te { D with nx := rest D } σ H') : tSeq (tIfS (tTest (tOp (rIn K false) (tOp (rIxT K) (tVar k) (tC (V.int 0))) (tTup (tCons (tC (V.str w1)) (tCons (tC (V.str w2)) tNil))))) tb te) rest D σ H := by
  refine ⟨_, g, t, _, ((0 : Nat) : Int), _, rfl, rfl, ht, atI_nat hw, by show 2 ≤ sizeLine; decide, fun u hu => ?_⟩
  refine ⟨u, _, rfl, .inr (SqT.of upd_same), rfl, rfl, _, rfl, ?_⟩
  rw [if_neg Bool.false_ne_true, hb]
  exact q _ (same_new hu)
end
theorem bring_giv {W : WallS} {size : Int} {l s : Bool} : (bringW W size l s).1.cur.given = W.cur.given ++ [(bringW W size l s).2.1] := by
  unfold bringW
  split <;> rfl
theorem code_giv {W : WallS} {p : Int} {t s : Bool} : (codeW W p t s).1.cur.given = W.cur.given := by
  unfold codeW
  split <;> rfl
section
variable {P : Program} {w : World} {K : PySem.W.Frag} {mg : Str → Option Value} {base : Heap}
def sp_law_step (K : PySem.W.Frag) : Sp := fun vs H Q _ => ∃ (x pl sz ca hm hd lt : Addr) (as : List Addr) (W : WallS) (lets had : List Int) (c : Call) (m : Nat), vs = [.ref x, .ref sz, .ref ca, .ref hm, .ref hd, .ref lt] ∧
  WallAt K as H x pl W ∧ (∀ a ∈ as, H a ≠ none) ∧ WSm W m ∧ m ≤ 4000 ∧ W.cur.given.length ≤ 2900 ∧ InsOk W ∧ Inv67 W lets had ∧ SqT K H sz (W.sizes.map V.int) ∧ SqT K H ca c.vs ∧ CallOk W c ∧ TfW W ∧ GoodB W.cur.rs ∧
  H hm = some (.lst (W.cur.given.map giV)) ∧ H hd = some (.lst (had.map V.int)) ∧ H lt = some (.lst (lets.map V.int)) ∧ hm ∈ as ∧ hd ∈ as ∧ lt ∈ as ∧ [pl, hm, hd, lt].Nodup ∧ lets.length ≤ 900000 ∧ had.length ≤ 900000 ∧
  ∀ H', But [x, pl, hm, hd, lt] H H' → WallAt K as H' x pl (callW W c).1 → H' hm = some (.lst ((callW W c).1.cur.given.map giV)) → H' hd = some (.lst ((had ++ gotC W c).map V.int)) → H' lt = some (.lst ((lets ++ letC W c).map V.int)) → Q (.bl true) H'
set_option maxHeartbeats 2000000 in
theorem ok_law_step (T : Txt w K mg) {fd : FuncData} (F : FunD K d_law_step.name d_law_step.qual d_law_step.params d_law_step.body d_law_step.scope (d_law_step.dvs K) (d_law_step.kws K) (He.fAd K d_law_step.at_) fd) : FnOk P w K mg base C8.CX0 8 (He.fAd K d_law_step.at_) fd ["wall", "sizes", "call", "homes", "had", "letters"] (sp_law_step K) := by
  have c_law_stands := c_law_stands (P := P) (w := w) (base := base) T
  have c_law_aged := c_law_aged (P := P) (w := w) (base := base) T
  have c_law_moved := c_law_moved (P := P) (w := w) (base := base) T
  have c_law_seen := c_law_seen (P := P) (w := w) (base := base) T
  have c_law_made := c_law_made (P := P) (w := w) (base := base) T
  refine F.ok sc_law_step (fun vs H Q E h => ?_) (fun cdv A outer s H vs Q E hr h => ?_)
  · obtain ⟨x, pl, sz, ca, hm, hd, lt, as, W, lets, had, c, m, rfl, _⟩ := h
    rfl
  · have hu := L2.hu_of hr
    obtain ⟨x, pl, sz, ca, hm, hd, lt, as, W, lets, had, c, m, rfl, hW, live, sm, hm4, h2900, iok, inv, hsz, hca, hok, tf, hg, hhm, hhd, hlt, ihm, ihd, ilt, nd, hll, hhl, q⟩ := h
    refine ⟨_, (PSs.nox ((pss_cons (ps_set (i := 6) sc_law_step.nd rfl (by first | exact Or.inl rfl | exact Or.inr rfl) (C8.pe_c c_law_seen hr (by decide) rfl (pa_cons (pv 0) pa_nil)))
  (pss_cons (ps_set (i := 7) sc_law_step.nd rfl (by first | exact Or.inl rfl | exact Or.inr rfl) (C8.pe_c c_law_made hr (by decide) rfl (pa_cons (pv 0) (pa_cons (pv 2) pa_nil))))
  (pss_cons (ps_set (i := 8) sc_law_step.nd rfl (by first | exact Or.inl rfl | exact Or.inr rfl) (C8.pe_c c_law_seen hr (by decide) rfl (pa_cons (pv 0) pa_nil)))
  (pss_cons (ps_if (pt_cmpR op_eq (pe_ix (My.ix_tupK (K := K) rfl) (pv 2) pe_int (fun _ _ => rfl)) pe_str (nomark _))
  (pss_cons (ps_expr (My.pe_bmK (K := K) rfl PySem.F.plainAttrs_list PySem.F.slot_list_append PySem.F.type_list_append mt_append (pv 3) (pa_cons (pe_ix (My.ix_tupK (K := K) rfl) (pv 7) pe_int (fun _ _ => rfl)) pa_nil)))
  (pss_one (ps_if (pt_cmpR op_ne (pe_ix (My.ix_tupK (K := K) rfl) (pv 7) pe_int (fun _ _ => rfl)) (pe_callB (My.len_seqK (K := K) rfl) (by rfl) T.len (by decide +kernel) (pa_cons (pv 3) pa_nil)) (nomark _))
  (pss_one (ps_ret pe_bl))
  pss_nil)))
  pss_nil)
  (pss_cons (ps_if (pt_cmpR (My.in_seqK (K := K) rfl) (pe_ix (My.ix_tupK (K := K) rfl) (pv 2) pe_int (fun _ _ => rfl)) (pe_tup (pa_cons pe_str (pa_cons pe_str pa_nil))) (by rfl))
  (pss_cons (ps_if (pt_not (pt_val (C8.pe_c c_law_aged hr (by decide) rfl (pa_cons (pv 2) (pa_cons (pv 7) (pa_cons (pv 6) (pa_cons (pv 8) (pa_cons (pv 3) pa_nil))))))))
  (pss_one (ps_ret pe_bl))
  pss_nil)
  (pss_one (ps_expr (My.pe_bmK (K := K) rfl PySem.F.plainAttrs_list PySem.F.slot_list_extend PySem.F.type_list_extend mt_extend (pv 5) (pa_cons (pv 7) pa_nil)))))
  (pss_one (ps_if (pt_not (pt_val (C8.pe_c c_law_moved hr (by decide) rfl (pa_cons (pv 1) (pa_cons (pv 2) (pa_cons (pv 7) (pa_cons (pv 6) (pa_cons (pv 8) (pa_cons (pv 3) pa_nil)))))))))
  (pss_one (ps_ret pe_bl))
  pss_nil)))
  (pss_cons (ps_if (pt_cmpR (My.in_seqK (K := K) rfl) (pe_ix (My.ix_tupK (K := K) rfl) (pv 2) pe_int (fun _ _ => rfl)) (pe_tup (pa_cons pe_str (pa_cons pe_str pa_nil))) (by rfl))
  (pss_one (ps_expr (My.pe_bmK (K := K) rfl PySem.F.plainAttrs_list PySem.F.slot_list_extend PySem.F.type_list_extend mt_extend (pv 5) (pa_cons (pe_ifExp (pt_cmpR op_eq (pe_ix (My.ix_tupK (K := K) rfl) (pv 2) pe_int (fun _ _ => rfl)) pe_str (nomark _)) (pe_ix (My.ix_tupK (K := K) rfl) (pv 7) pe_int (fun _ _ => rfl)) (pe_ix (My.ix_tupK (K := K) rfl) (pv 7) pe_int (fun _ _ => rfl))) pa_nil))))
  pss_nil)
  (pss_cons (ps_set (i := 9) sc_law_step.nd rfl (by first | exact Or.inl rfl | exact Or.inr rfl) (pe_ifExp (pt_cmpR op_eq (pe_ix (My.ix_tupK (K := K) rfl) (pv 2) pe_int (fun _ _ => rfl)) pe_str (nomark _)) (pv 7) (pe_lst pa_nil)))
  (pss_cons (ps_if (pt_cmpR op_eq (pe_ix (My.ix_tupK (K := K) rfl) (pv 2) pe_int (fun _ _ => rfl)) pe_str (nomark _))
  (pss_one (ps_set (i := 9) sc_law_step.nd rfl (by first | exact Or.inl rfl | exact Or.inr rfl) (pe_ix (My.ix_tupK (K := K) rfl) (pv 7) pe_int (fun _ _ => rfl))))
  pss_nil)
  (pss_cons (ps_if (pt_cmpR (My.neDK (K := K) rfl hr.units) (pe_lc (own := [("one", 10)]) (g := (gName 10)) (by rfl) sc_law_step.nd (My.pi_listK (K := K) rfl (pv 9)) (blkOk_by (N := N_law_step) (sc := defScope s_law_step) (by decide +kernel)) (fun _ _ _ _ _ => (pg_name (i := 10) sc_law_step.nd rfl (by first | exact Or.inl rfl | exact Or.inr rfl))) (fun _ _ _ _ _ => (pts_one (pt_cmpR (My.in_seqK (K := K) rfl) (pv 10) (pv 4) (by rfl)))) (fun _ _ _ _ _ => (pv 10))) (pe_lst pa_nil) (nomark _))
  (pss_one (ps_ret pe_bl))
  pss_nil)
  (pss_cons (ps_expr (My.pe_bmK (K := K) rfl PySem.F.plainAttrs_list PySem.F.slot_list_extend PySem.F.type_list_extend mt_extend (pv 4) (pa_cons (pv 9) pa_nil)))
  (pss_one (ps_ret (C8.pe_c c_law_stands hr (by decide) rfl (pa_cons (pv 0) (pa_cons (pv 3) (pa_cons (pv 4) (pa_cons (pv 5) pa_nil))))))))))))))))))), ?_⟩
    have st := call_step inv.gok hok
    have h12 := sm.b12
    have inv2 := inv.call hok
    have hlc := letC_len hg h12 c
    have hgc := gotC_len inv sm hok
    have sm2 := st.wsm hg sm (by omega : m + 16 ≤ 90000)
    have iok2 := st.iok iok
    have g2 : (callW W c).1.cur.given.length ≤ 3000 := by
      obtain ⟨l, hl, e, _⟩ := st.giv
      rw [e, List.length_append]
      omega
    have last : ∀ (G : Hp) (v6 v7 v8 : Option V) (gv : Addr), S67 K as G x pl hm hd lt (callW W c).1 (callW W c).1.cur.given had (lets ++ letC W c) → But [x, pl, hm, hd, lt] H G → G gv = some (.lst ((gotC W c).map V.int)) → gv ∉ as → ∀ Dn : Ends, Dn.rt = Q →
                      (tSeq
                        (tIfS
                          (tTest
                            (tOp (rNeD K)
                              (tLc (iList K (tVar 9)) (gName 10) (tTest (tOp (rIn K false) (tVar 10) (tVar 4))) (tVar 10)
                                (List.map (fun x => x.snd) [(Str.ofString "one", 10)]))
                              (tLst tNil)))
                          (tRet (tC (V.bl false))) tNext)
                        (tSeq (tDrop (tBM K "list" rExtend (tVar 4) (tCons (tVar 9) tNil)))
                          (tRet
                            (tCall (sp_law_stands K) [] C8.E0
                              (tCons (tVar 0) (tCons (tVar 3) (tCons (tVar 4) (tCons (tVar 5) tNil)))))))) Dn [some (.ref x), some (.ref sz), some (.ref ca), some (.ref hm), some (.ref hd), some (.ref lt), v6, v7, v8, some (.ref gv), none] G := by
      intro G v6 v7 v8 gv S b hgv ngv Dn hDn
      refine ⟨_, rfl, gv, rfl, ⟨_, SqL.of hgv⟩, fun E hE => ?_⟩
      refine lc_list (K := K) (a := gv) (xs := (gotC W c).map V.int) (fun _ H' => Same G H' ∧ H' E = some (.lst [])) ⟨same_new hE, upd_same⟩ (fun _ H' _ z => SqL.of (z.1 _ _ hgv)) ?_ ?_
      · rintro j y H7 hj ⟨s7, hD7⟩
        obtain ⟨z, hz, rfl⟩ := map_get hj
        have hh := inv.new hok z (List.mem_of_getElem? hz)
        refine ⟨rfl, ?_⟩
        refine ⟨_, rfl, _, rfl, hd, _, rfl, .inl (SqL.of (s7 _ _ S.hhd)), rfl, all_flat_int _, _, rfl, ?_⟩
        rw [if_neg Bool.false_ne_true, inV_int, decide_eq_false hh]
        exact L2.iteF ⟨s7, hD7⟩
      rintro H7 ⟨s7, hD7⟩
      refine ⟨Nat.zero_le _, fun e9 he9 => ?_⟩
      have t7 := s7.trans (same_new (o := .lst []) he9)
      refine ⟨.list [], .list [], nilD (same_new he9 _ _ hD7), nilD upd_same, sm_nil.shaped (by decide), sm_nil.shaped (by decide), ?_⟩
      rw [sm_nil.refl]
      refine ⟨_, rfl, L2.iteF ?_⟩
      generalize upd H7 e9 (.lst []) = G2 at t7
      have S2 := S.same t7
      refine ⟨_, rfl, .inl ⟨rfl, _, SqL.of S2.hhd⟩, _, rfl, hd, gv, _, _, rfl, rfl, S2.hhd, t7 _ _ hgv, by rw [List.length_map, List.length_map]; exact Nat.le_of_lt (lt_line (by omega)), ?_⟩
      rw [← List.map_append]
      have S3 := S2.putD (had ++ gotC W c)
      have b3 : But [x, pl, hm, hd, lt] H (upd G2 hd (.lst ((had ++ gotC W c).map V.int))) := (b.trans (But.of t7)).put (.inr (by simp))
      show Ends.nx _ _ (upd G2 hd (.lst ((had ++ gotC W c).map V.int)))
      generalize upd G2 hd (.lst ((had ++ gotC W c).map V.int)) = G3 at S3 b3
      refine ⟨_, rfl, _, rfl, _, rfl, _, rfl, x, pl, hm, hd, lt, as, (callW W c).1, m + 16, lets ++ letC W c, had ++ gotC W c, rfl, S3.wall, S3.live, sm2, by omega, g2, iok2, inv2, S3.hhm, S3.hhd, S3.hlt, fun H' s => ?_⟩
      rw [hDn]
      exact q H' (b3.trans (But.of s)) (S3.wall.same s) (s _ _ S3.hhm) (s _ _ S3.hhd) (s _ _ S3.hlt)
    have tail0 : ∀ (G : Hp) (v6 v7 v8 : Option V) (hdw : Str), S67 K as G x pl hm hd lt (callW W c).1 (callW W c).1.cur.given had (lets ++ letC W c) → But [x, pl, hm, hd, lt] H G → SqT K G ca c.vs → c.vs[0]? = some (.str hdw) → hdw ≠ "pass" → hdw ≠ "code" → gotC W c = [] → ∀ Dn : Ends, Dn.rt = Q →
                  (tSeq
                    (tAsg
                      (tIf (tTest (tOp rEq (tOp (rIxT K) (tVar 2) (tC (V.int 0))) (tC (V.str (Str.ofString "pass")))))
                        (tVar 7) (tLst tNil))
                      (gName 9))
                    (tSeq
                      (tIfS (tTest (tOp rEq (tOp (rIxT K) (tVar 2) (tC (V.int 0))) (tC (V.str (Str.ofString "code")))))
                        (tAsg (tOp (rIxT K) (tVar 7) (tC (V.int 2))) (gName 9)) tNext)
                      (tSeq
                        (tIfS
                          (tTest
                            (tOp (rNeD K)
                              (tLc (iList K (tVar 9)) (gName 10) (tTest (tOp (rIn K false) (tVar 10) (tVar 4))) (tVar 10)
                                (List.map (fun x => x.snd) [(Str.ofString "one", 10)]))
                              (tLst tNil)))
                          (tRet (tC (V.bl false))) tNext)
                        (tSeq (tDrop (tBM K "list" rExtend (tVar 4) (tCons (tVar 9) tNil)))
                          (tRet
                            (tCall (sp_law_stands K) [] C8.E0
                              (tCons (tVar 0) (tCons (tVar 3) (tCons (tVar 4) (tCons (tVar 5) tNil)))))))))) Dn [some (.ref x), some (.ref sz), some (.ref ca), some (.ref hm), some (.ref hd), some (.ref lt), v6, v7, v8, none, none] G := by
      intro G v6 v7 v8 hdw S b hc2 hw0 nw1 nw2 hg0 Dn hDn
      refine ⟨_, rfl, ca, _, ((0 : Nat) : Int), _, rfl, rfl, hc2, atI_nat hw0, rfl, _, rfl, ?_⟩
      rw [str_eqF nw1]
      refine L2.iteF ⟨Nat.zero_le _, fun gv hgv => ?_⟩
      have y := same_new (o := .lst []) hgv
      refine cq_no rfl (same_tup y hc2) hw0 nw2 ?_
      exact last _ v6 v7 v8 gv (S.same y) (b.trans (But.of y)) (by rw [upd_same, hg0]; rfl) (fun z => S.live gv z hgv) _ hDn
    have S0 : S67 K as H x pl hm hd lt W W.cur.given had lets := ⟨hW, live, hhm, hhd, hlt, ihm, ihd, ilt, nd⟩
    refine ⟨_, rfl, x, pl, as, W, m, rfl, hW, live, sm, by omega, fun H1 ah s1 nah hah => ?_⟩
    have S1 := S0.same s1
    refine ⟨_, rfl, _, rfl, x, pl, ca, as, W, m, c, rfl, S1.wall, S1.live, sm, inv.gok, same_tup s1 hca, hok, fun H2 v b2 hW2 due2 => ?_⟩
    have mW := S1.wall.muts
    obtain ⟨n1, n2, n3, _, _, _⟩ := S1.nes
    have two : ∀ {d : Addr} {l : List V}, H1 d = some (.lst l) → pl ≠ d → d ∉ [x, pl] := fun e np z => by
      simp only [List.mem_cons, List.not_mem_nil, or_false] at z
      rcases z with z | z
      · exact S1.xne e z.symm
      · exact np z.symm
    have S2 : S67 K as H2 x pl hm hd lt (callW W c).1 W.cur.given had lets := by
      refine ⟨hW2, fun a ha e => ?_, b2 _ _ (two S1.hhm n1) S1.hhm, b2 _ _ (two S1.hhd n2) S1.hhd, b2 _ _ (two S1.hlt n3) S1.hlt, ihm, ihd, ilt, nd⟩
      by_cases z : a ∈ [x, pl]
      · exact hW2.here a z e
      · cases e0 : H1 a with
        | none => exact S1.live a ha e0
        | some o => rw [b2 _ _ z e0] at e; cases e
    have hah2 := hah.mut mW b2
    have hsz2 := mut_tup mW b2 (same_tup s1 hsz)
    have hca2 := mut_tup mW b2 (same_tup s1 hca)
    have bb2 : But [x, pl, hm, hd, lt] H H2 := (But.of s1).trans (b2.mono fun a ha => by
      simp only [List.mem_cons, List.not_mem_nil, or_false] at ha ⊢
      exact ha.imp id .inl)
    refine ⟨_, rfl, x, pl, as, (callW W c).1, m + 16, rfl, S2.wall, S2.live, sm2, by omega, fun H3 bh s3 nbh hbh => ?_⟩
    have S3 := S2.same s3
    have hah3 := hah2.same s3
    have hsz3 := same_tup s3 hsz2
    have hca3 := same_tup s3 hca2
    have due3 := due2.same s3
    have bb3 := bb2.trans (But.of s3)
    show Ends.nx _ _ H3
    clear hah hah2 hsz2 hca2 due2 bb2 S2 S1 hW2 b2 mW s1 s3 hW live hhm hhd hlt S0
    cases c with
    | bring size l s =>
      refine cq_yes rfl hca3 rfl rfl ?_
      have due4 : DueAt as H3 v (.trip ((W.cur.given.length : Int) + 1) (bringW W size l s).2.1 (bringW W size l s).2.2) := due3
      obtain ⟨tt, tl, rfl, htt, htl⟩ := due4
      refine ⟨_, rfl, .inl ⟨rfl, _, SqL.of S3.hhm⟩, _, rfl, tt, _, ((1 : Nat) : Int), _, rfl, rfl, SqT.of htt, atI_nat rfl, hm, _, _, rfl, rfl, S3.hhm, by rw [List.length_map]; exact lt_line (by omega), ?_⟩
      have e4 : W.cur.given.map giV ++ [giV (bringW W size l s).2.1] = ((callW W (.bring size l s)).1.cur.given).map giV := by
        show _ = (bringW W size l s).1.cur.given.map giV
        rw [bring_giv, List.map_append]; rfl
      rw [e4]
      have S4 := S3.putM (callW W (.bring size l s)).1.cur.given
      have y4 : But [hm] H3 (upd H3 hm (.lst ((callW W (.bring size l s)).1.cur.given.map giV))) := (But.refl _ _).put (.inr (by simp))
      show Ends.nx _ _ (upd H3 hm (.lst ((callW W (.bring size l s)).1.cur.given.map giV)))
      generalize upd H3 hm (.lst ((callW W (.bring size l s)).1.cur.given.map giV)) = H4 at S4 y4
      have mM := S3.mutM
      have bb4 : But [x, pl, hm, hd, lt] H H4 := bb3.trans (y4.mono fun a ha => by rw [List.mem_singleton.mp ha]; simp)
      have hca4 := mut_tup mM y4 hca3
      have hsz4 := mut_tup mM y4 hsz3
      have htt4 := mut_htup mM y4 htt
      have htl4 := htl.mut mM y4
      have hah4 := hah3.mut mM y4
      have hbh4 := hbh.mut mM y4
      refine ⟨_, rfl, tt, _, ((0 : Nat) : Int), _, rfl, rfl, SqT.of htt4, atI_nat rfl, _, rfl, hm, _, rfl, .inl (SqL.of S4.hhm), rfl, _, rfl, ?_⟩
      have eg : ((callW W (.bring size l s)).1.cur.given).length = W.cur.given.length + 1 := by
        show ((bringW W size l s).1.cur.given).length = _
        rw [bring_giv, List.length_append]; rfl
      rw [List.length_map, eg, show (!decide (V.int ((W.cur.given.length : Int) + 1) = V.int ((W.cur.given.length + 1 : Nat) : Int))) = false by simp]
      refine L2.iteF ?_
      refine cq_inF rfl hca4 rfl rfl fun H5 s5 => ?_
      have S5 := S4.same s5
      refine ⟨_, rfl, _, rfl, _, rfl, _, rfl, _, rfl, _, rfl, sz, ca, ah, bh, hm, .ref tt, as, W, lets, had, .bring size l s, m, rfl, same_tup s5 hsz4, same_tup s5 hca4, hok, (fun z => (nomatch z)), (fun z => (nomatch z)), ⟨tt, tl, rfl, s5 _ _ htt4, (htl4.mut mut_no (But.of s5))⟩, hah4.same s5, hbh4.same s5, S5.hhm, inv, sm, by omega, by omega, tf, hg, fun H6 s6 => ?_⟩
      refine ⟨true, rfl, L2.iteF ?_⟩
      have s56 := s5.trans s6
      refine cq_inT rfl (same_tup s56 hca4) rfl rfl fun H7 s7 => ?_
      have s57 := s56.trans s7
      have S7 := S4.same s57
      refine ⟨_, rfl, .inl ⟨rfl, _, SqL.of S7.hlt⟩, ?_⟩
      refine ⟨_, rfl, ca, _, ((0 : Nat) : Int), _, rfl, rfl, same_tup s57 hca4, atI_nat rfl, rfl, _, rfl, ?_⟩
      rw [str_eqT rfl]
      refine L2.iteT ?_
      refine ⟨_, rfl, tt, _, ((2 : Nat) : Int), _, rfl, rfl, SqT.of (s57 _ _ htt4), atI_nat rfl, lt, tl, _, _, rfl, rfl, S7.hlt, s57 _ _ htl4.1, ?_, ?_⟩
      · rw [List.length_map, List.length_map]
        have : (bringW W size l s).2.2.length ≤ 1200 := hlc
        exact Nat.le_of_lt (lt_line (by omega))
      rw [← List.map_append]
      have S8 := S7.putL (lets ++ letC W (.bring size l s))
      have b8 : But [x, pl, hm, hd, lt] H (upd H7 lt (.lst ((lets ++ letC W (.bring size l s)).map V.int))) := (bb4.trans (But.of s57)).put (.inr (by simp))
      have hca8 := mut_tup S7.mutL (show But [lt] H7 (upd H7 lt (.lst ((lets ++ letC W (.bring size l s)).map V.int))) from (But.refl _ _).put (.inr (by simp))) (same_tup s57 hca4)
      exact tail0 _ _ _ _ "bring" S8 b8 hca8 rfl (by decide) (by decide) rfl _ rfl
    | pass i =>
      refine cq_no rfl hca3 rfl nPB ?_
      refine cq_inF rfl hca3 rfl rfl fun H5 s5 => ?_
      have S5 := S3.same s5
      have hgv : H5 hm = some (.lst ((callW W (.pass i)).1.cur.given.map giV)) := by rw [show (callW W (.pass i)).1.cur.given = W.cur.given from rfl]; exact S5.hhm
      refine ⟨_, rfl, _, rfl, _, rfl, _, rfl, _, rfl, _, rfl, sz, ca, ah, bh, hm, _, as, W, lets, had, (.pass i), m, rfl, same_tup s5 hsz3, same_tup s5 hca3, hok, (fun z => (nomatch z)), (fun z => (nomatch z)), due3.same s5, hah3.same s5, hbh.same s5, hgv, inv, sm, by omega, by omega, tf, hg, fun H6 s6 => ?_⟩
      refine ⟨true, rfl, L2.iteF ?_⟩
      have s56 := s5.trans s6
      have due4 : DueAt as H3 v (.lst (passW W i).2.got) := due3
      obtain ⟨tl, rfl, htl⟩ := due4
      refine cq_inF rfl (same_tup s56 hca3) rfl rfl fun H7 s7 => ?_
      have s57 := s56.trans s7
      refine ⟨_, rfl, ca, _, ((0 : Nat) : Int), _, rfl, rfl, same_tup s57 hca3, atI_nat rfl, rfl, _, rfl, ?_⟩
      rw [str_eqT rfl]
      refine L2.iteT ?_
      refine ⟨_, rfl, ?_⟩
      refine cq_no rfl (same_tup s57 hca3) rfl (show ("pass" : Str) ≠ "code" by decide) ?_
      have S8 : S67 K as H7 x pl hm hd lt (callW W (.pass i)).1 (callW W (.pass i)).1.cur.given had (lets ++ letC W (.pass i)) := by
        rw [show lets ++ letC W (.pass i) = lets from List.append_nil _]
        exact S3.same s57
      exact last _ _ _ _ tl S8 (bb3.trans (But.of s57)) (s57 _ _ htl.1) htl.2 _ rfl
    | code p t s =>
      refine cq_no rfl hca3 rfl nCB ?_
      refine cq_inF rfl hca3 rfl rfl fun H5 s5 => ?_
      have S5 := S3.same s5
      have hgv : H5 hm = some (.lst ((callW W (.code p t s)).1.cur.given.map giV)) := by rw [show (callW W (.code p t s)).1.cur.given = W.cur.given from code_giv]; exact S5.hhm
      refine ⟨_, rfl, _, rfl, _, rfl, _, rfl, _, rfl, _, rfl, sz, ca, ah, bh, hm, _, as, W, lets, had, (.code p t s), m, rfl, same_tup s5 hsz3, same_tup s5 hca3, hok, (fun z => (nomatch z)), (fun z => (nomatch z)), due3.same s5, hah3.same s5, hbh.same s5, hgv, inv, sm, by omega, by omega, tf, hg, fun H6 s6 => ?_⟩
      refine ⟨true, rfl, L2.iteF ?_⟩
      have s56 := s5.trans s6
      have due4 : DueAt as H3 v (.rep (codeW W p t s).2.letters (codeW W p t s).2.opened (codeW W p t s).2.got) := due3
      obtain ⟨tt, la, lb, rfl, htt, htl, htg⟩ := due4
      refine cq_inT rfl (same_tup s56 hca3) rfl rfl fun H7 s7 => ?_
      have s57 := s56.trans s7
      have S7 := S3.same s57
      refine ⟨_, rfl, .inl ⟨rfl, _, SqL.of S7.hlt⟩, ?_⟩
      refine ⟨_, rfl, ca, _, ((0 : Nat) : Int), _, rfl, rfl, same_tup s57 hca3, atI_nat rfl, rfl, _, rfl, ?_⟩
      rw [str_eqF (show ("code" : Str) ≠ "bring" by decide)]
      refine L2.iteF ?_
      refine ⟨_, rfl, tt, _, ((0 : Nat) : Int), _, rfl, rfl, SqT.of (s57 _ _ htt), atI_nat rfl, lt, la, _, _, rfl, rfl, S7.hlt, s57 _ _ htl.1, ?_, ?_⟩
      · rw [List.length_map, List.length_map]
        have : (codeW W p t s).2.letters.length ≤ 1200 := hlc
        exact Nat.le_of_lt (lt_line (by omega))
      rw [← List.map_append]
      have S8 : S67 K as (upd H7 lt (.lst ((lets ++ letC W (.code p t s)).map V.int))) x pl hm hd lt (callW W (.code p t s)).1 (callW W (.code p t s)).1.cur.given had (lets ++ letC W (.code p t s)) := by
        rw [show (callW W (.code p t s)).1.cur.given = W.cur.given from code_giv]
        exact S7.putL (lets ++ letC W (.code p t s))
      have y8 : But [lt] H7 (upd H7 lt (.lst ((lets ++ letC W (.code p t s)).map V.int))) := (But.refl _ _).put (.inr (by simp))
      have b8 : But [x, pl, hm, hd, lt] H (upd H7 lt (.lst ((lets ++ letC W (.code p t s)).map V.int))) := (bb3.trans (But.of s57)).put (.inr (by simp))
      have hca8 := mut_tup S7.mutL y8 (same_tup s57 hca3)
      have htt8 := mut_htup S7.mutL y8 (s57 _ _ htt)
      have htg8 := (htg.mut mut_no (But.of s57)).mut S7.mutL y8
      show tSeq _ _ _ _ (upd H7 lt (.lst ((lets ++ letC W (.code p t s)).map V.int)))
      generalize upd H7 lt (.lst ((lets ++ letC W (.code p t s)).map V.int)) = H8 at S8 b8 hca8 htt8 htg8
      refine ⟨_, rfl, ca, _, ((0 : Nat) : Int), _, rfl, rfl, hca8, atI_nat rfl, rfl, _, rfl, ?_⟩
      rw [str_eqF (show ("code" : Str) ≠ "pass" by decide)]
      refine L2.iteF ⟨Nat.zero_le _, fun gv hgv => ?_⟩
      have y9 := same_new (o := .lst []) hgv
      refine cq_yes rfl (same_tup y9 hca8) rfl rfl ?_
      refine ⟨_, rfl, tt, _, ((2 : Nat) : Int), _, rfl, rfl, SqT.of (y9 _ _ htt8), atI_nat rfl, ?_⟩
      exact last _ _ _ _ lb (S8.same y9) (b8.trans (But.of y9)) (y9 _ _ htg8.1) htg8.2 _ rfl
    | day =>
      refine cq_no rfl hca3 rfl nDB ?_
      have due4 : DueAt as H3 v (.lst (tickW (dayF W.cur.d W.cur.rs) W).2) := due3
      obtain ⟨tl, rfl, htl⟩ := due4
      refine cq_inT rfl hca3 rfl rfl fun H4 s4 => ?_
      refine ⟨_, rfl, _, rfl, _, rfl, _, rfl, _, rfl, ca, tl, ah, bh, hm, as, W, lets, had, .day, true, (dayF W.cur.d W.cur.rs), rfl, same_tup s4 hca3, rfl, tick_day inv, inv, h12, by omega, (fun S hS => by
        have : S.inside.length ≤ m := (sm.bd S hS).i
        omega), s4 _ _ htl.1, hah3.same s4, hbh.same s4, s4 _ _ S3.hhm, fun H5 s5 => ⟨true, rfl, L2.iteF ?_⟩⟩
      have s45 := s4.trans s5
      have S5 := S3.same s45
      refine ⟨_, rfl, .inl ⟨rfl, _, SqL.of S5.hlt⟩, _, rfl, lt, tl, _, _, rfl, rfl, S5.hlt, s45 _ _ htl.1, ?_, ?_⟩
      · rw [List.length_map, List.length_map]
        have : (tickW (dayF W.cur.d W.cur.rs) W).2.length ≤ 1200 := hlc
        exact Nat.le_of_lt (lt_line (by omega))
      rw [← List.map_append]
      have S6 : S67 K as _ x pl hm hd lt (callW W .day).1 (callW W .day).1.cur.given had (lets ++ letC W .day) := S5.putL (lets ++ letC W .day)
      have b6 : But [x, pl, hm, hd, lt] H (upd H5 lt (.lst ((lets ++ letC W .day).map V.int))) := (bb3.trans (But.of s45)).put (.inr (by simp))
      have hca6 := mut_tup S5.mutL (show But [lt] H5 (upd H5 lt (.lst ((lets ++ letC W .day).map V.int))) from (But.refl _ _).put (.inr (by simp))) (same_tup s45 hca3)
      show tSeq _ _ _ _ (upd H5 lt (.lst ((lets ++ letC W .day).map V.int)))
      generalize upd H5 lt (.lst ((lets ++ letC W .day).map V.int)) = H6 at S6 b6 hca6
      refine cq_inF rfl hca6 rfl rfl fun H7 s7 => ?_
      exact tail0 _ _ _ _ "day" (S6.same s7) (b6.trans (But.of s7)) (same_tup s7 hca6) rfl (by decide) (by decide) rfl _ rfl
    | power =>
      refine cq_no rfl hca3 rfl nWB ?_
      have due4 : DueAt as H3 v (.lst (tickW (powerF W.cur.rs) W).2) := due3
      obtain ⟨tl, rfl, htl⟩ := due4
      refine cq_inT rfl hca3 rfl rfl fun H4 s4 => ?_
      refine ⟨_, rfl, _, rfl, _, rfl, _, rfl, _, rfl, ca, tl, ah, bh, hm, as, W, lets, had, .power, false, (powerF W.cur.rs), rfl, same_tup s4 hca3, rfl, tick_power inv, inv, h12, by omega, (fun S hS => by
        have : S.inside.length ≤ m := (sm.bd S hS).i
        omega), s4 _ _ htl.1, hah3.same s4, hbh.same s4, s4 _ _ S3.hhm, fun H5 s5 => ⟨true, rfl, L2.iteF ?_⟩⟩
      have s45 := s4.trans s5
      have S5 := S3.same s45
      refine ⟨_, rfl, .inl ⟨rfl, _, SqL.of S5.hlt⟩, _, rfl, lt, tl, _, _, rfl, rfl, S5.hlt, s45 _ _ htl.1, ?_, ?_⟩
      · rw [List.length_map, List.length_map]
        have : (tickW (powerF W.cur.rs) W).2.length ≤ 1200 := hlc
        exact Nat.le_of_lt (lt_line (by omega))
      rw [← List.map_append]
      have S6 : S67 K as _ x pl hm hd lt (callW W .power).1 (callW W .power).1.cur.given had (lets ++ letC W .power) := S5.putL (lets ++ letC W .power)
      have b6 : But [x, pl, hm, hd, lt] H (upd H5 lt (.lst ((lets ++ letC W .power).map V.int))) := (bb3.trans (But.of s45)).put (.inr (by simp))
      have hca6 := mut_tup S5.mutL (show But [lt] H5 (upd H5 lt (.lst ((lets ++ letC W .power).map V.int))) from (But.refl _ _).put (.inr (by simp))) (same_tup s45 hca3)
      show tSeq _ _ _ _ (upd H5 lt (.lst ((lets ++ letC W .power).map V.int)))
      generalize upd H5 lt (.lst ((lets ++ letC W .power).map V.int)) = H6 at S6 b6 hca6
      refine cq_inF rfl hca6 rfl rfl fun H7 s7 => ?_
      exact tail0 _ _ _ _ "power" (S6.same s7) (b6.trans (But.of s7)) (same_tup s7 hca6) rfl (by decide) (by decide) rfl _ rfl
theorem c_law_step (T : Txt w K mg) : C8.Cal P w K mg base 8 "_law_step" (sp_law_step K) [] := by
  obtain ⟨fd, F⟩ := T.f_law_step
  exact ⟨_, fd, _, _, ok_law_step T F, T.g_law_step, F.kp, F.bindsN (fun _ _ _ _ _ _ us hl => match us, hl with | [_, _, _, _, _, _], _ => rfl), .nil⟩
end
end K67

namespace K67
open PySem PySem.Spec PyProof.Rows L2 My StX
/-! ### the state of the law -/
structure I67 (K : PySem.W.Frag) (spr : List Addr) (x pl sz pb k0 k1 hm hd lt ws : Addr) (wss : List Addr) (d0 d1 : Int) (rs0 rs1 : List RuleL) (H : Hp) (as : List Addr) (W : WallS) (lets had : List Int) (n m N : Nat) : Prop where
  s : S67 K as H x pl hm hd lt W W.cur.given had lets
  inv : Inv67 W lets had
  sm : WSm W m
  gl : W.cur.given.length ≤ n
  iok : InsOk W
  tf : TfW W
  good : GoodB W.cur.rs
  pos : 0 < W.cur.boxes.length
  ll : lets.length ≤ 1200 * n
  hl : had.length ≤ 4000 * n
  sp : ∀ s ∈ spr, SpringAt H s N ∧ s ∈ as ∧ s ∉ [pl, hm, hd, lt, ws]
  hpb : LstAt as H pb [.ref k0, .ref k1]
  b0 : BookAt K H k0 d0 rs0 ∧ GoodB rs0
  b1 : BookAt K H k1 d1 rs1 ∧ GoodB rs1
  hsz : SqT K H sz (W.sizes.map V.int)
  hws : H ws = some (.lst (wss.map V.ref))
  iws : ws ∈ as
  wne : ws ∉ [pl, hm, hd, lt]
section
variable {K : PySem.W.Frag} {spr as : List Addr} {x pl sz pb k0 k1 hm hd lt ws : Addr} {wss : List Addr} {d0 d1 : Int} {rs0 rs1 : List RuleL} {H H' : Hp} {W : WallS} {lets had : List Int} {n m N N' : Nat}
theorem I67.chg {cs : List Addr} (h : I67 K spr x pl sz pb k0 k1 hm hd lt ws wss d0 d1 rs0 rs1 H as W lets had n m N) (mt : ∀ c ∈ cs, Mut as H c) (b : But cs H H') (nx : x ∉ cs) (nn : ∀ c ∈ [pl, hm, hd, lt, ws], c ∉ cs) (sp : ∀ s ∈ spr, SpringAt H' s N') (lv : ∀ c ∈ cs, H' c ≠ none) :
    I67 K spr x pl sz pb k0 k1 hm hd lt ws wss d0 d1 rs0 rs1 H' as W lets had n m N' :=
  ⟨⟨h.s.wall.mut mt b nx (nn pl (by simp)), live_but h.s.live b lv, b _ _ (nn hm (by simp)) h.s.hhm, b _ _ (nn hd (by simp)) h.s.hhd, b _ _ (nn lt (by simp)) h.s.hlt, h.s.ihm, h.s.ihd, h.s.ilt, h.s.nd⟩, h.inv, h.sm, h.gl, h.iok, h.tf, h.good, h.pos, h.ll, h.hl, fun s hs => ⟨sp s hs, (h.sp s hs).2⟩, h.hpb.mut mt b, ⟨mut_book mt b h.b0.1, h.b0.2⟩, ⟨mut_book mt b h.b1.1, h.b1.2⟩, mut_tup mt b h.hsz, b _ _ (nn ws (by simp)) h.hws, h.iws, h.wne⟩
theorem I67.same (h : I67 K spr x pl sz pb k0 k1 hm hd lt ws wss d0 d1 rs0 rs1 H as W lets had n m N) (s : Same H H') : I67 K spr x pl sz pb k0 k1 hm hd lt ws wss d0 d1 rs0 rs1 H' as W lets had n m N :=
  h.chg (cs := []) mut_no (But.of s) (fun z => by cases z) (fun _ _ z => by cases z) (fun a ha => (h.sp a ha).1.same s) (fun c hc => by cases hc)
theorem I67.xs {s : Addr} (h : I67 K spr x pl sz pb k0 k1 hm hd lt ws wss d0 d1 rs0 rs1 H as W lets had n m N) (hs : s ∈ spr) : x ≠ s := fun z => by
  obtain ⟨_, _, _, q, _⟩ := (h.sp s hs).1
  obtain ⟨dx, _, _, _, _, _, h1, _⟩ := h.s.wall
  rw [z, q] at h1
  cases h1
theorem I67.draw {s : Addr} (h : I67 K spr x pl sz pb k0 k1 hm hd lt ws wss d0 d1 rs0 rs1 H as W lets had n m N) (hs : s ∈ spr) (b : But [s] H H') (sa : SpringAt H' s N') (le : N ≤ N') : I67 K spr x pl sz pb k0 k1 hm hd lt ws wss d0 d1 rs0 rs1 H' as W lets had n m N' := by
  obtain ⟨q1, q2, q3⟩ := h.sp s hs
  refine h.chg (q1.mut q2) b (by simpa using h.xs hs) (fun c hc z => q3 (by rw [← List.mem_singleton.mp z]; exact hc)) (fun t ht => ?_) (fun c hc e => ?_)
  · by_cases e : t = s
    · rw [e]; exact sa
    · obtain ⟨w0, w1, w2, e1, r⟩ := (h.sp t ht).1
      exact SpringAt.mono ⟨w0, w1, w2, b _ _ (by simpa using e) e1, r⟩ le
  · rw [List.mem_singleton.mp hc] at e
    obtain ⟨_, _, _, e1, _⟩ := sa
    rw [e] at e1
    cases e1
theorem I67.mono (h : I67 K spr x pl sz pb k0 k1 hm hd lt ws wss d0 d1 rs0 rs1 H as W lets had n m N) (e : N ≤ N') : I67 K spr x pl sz pb k0 k1 hm hd lt ws wss d0 d1 rs0 rs1 H as W lets had n m N' :=
  ⟨h.s, h.inv, h.sm, h.gl, h.iok, h.tf, h.good, h.pos, h.ll, h.hl, fun s hs => ⟨(h.sp s hs).1.mono e, (h.sp s hs).2⟩, h.hpb, h.b0, h.b1, h.hsz, h.hws, h.iws, h.wne⟩
theorem I67.up {m' : Nat} (h : I67 K spr x pl sz pb k0 k1 hm hd lt ws wss d0 d1 rs0 rs1 H as W lets had n m N) (e : m ≤ m') (hm9 : m' ≤ 90000) : I67 K spr x pl sz pb k0 k1 hm hd lt ws wss d0 d1 rs0 rs1 H as W lets had n m' N :=
  ⟨h.s, h.inv, ⟨h.sm.len, h.sm.b12, fun S hS => (h.sm.bd S hS).mono e, Nat.le_trans h.sm.giv e, Nat.le_trans h.sm.pas e, hm9⟩, h.gl, h.iok, h.tf, h.good, h.pos, h.ll, h.hl, h.sp, h.hpb, h.b0, h.b1, h.hsz, h.hws, h.iws, h.wne⟩
theorem I67.lst {c : Addr} {l : List V} (h : I67 K spr x pl sz pb k0 k1 hm hd lt ws wss d0 d1 rs0 rs1 H as W lets had n m N) (e : H c = some (.lst l)) (np : c ≠ pl) : c ∉ [x, pl] := fun z => by
  simp only [List.mem_cons, List.not_mem_nil, or_false] at z
  rcases z with z | z
  · exact h.s.xne e z.symm
  · exact np z
/-- a change of the book -/
theorem I67.changed {d : Int} {rs : List RuleL} (h : I67 K spr x pl sz pb k0 k1 hm hd lt ws wss d0 d1 rs0 rs1 H as W lets had n m N) (b : But [x, pl] H H') (hW : WallAt K as H' x pl (changeW W d rs)) (hg : GoodB rs) (hm9 : m + 1 ≤ 90000) :
    I67 K spr x pl sz pb k0 k1 hm hd lt ws wss d0 d1 rs0 rs1 H' as (changeW W d rs) lets had n (m + 1) N := by
  obtain ⟨n1, n2, n3, _, _, _⟩ := h.s.nes
  have mt := h.s.wall.muts
  have w4 : ws ≠ pl := fun z => h.wne (by rw [z]; simp)
  refine ⟨⟨hW, live_but h.s.live b hW.here, b _ _ (h.lst h.s.hhm n1.symm) h.s.hhm, b _ _ (h.lst h.s.hhd n2.symm) h.s.hhd, b _ _ (h.lst h.s.hlt n3.symm) h.s.hlt, h.s.ihm, h.s.ihd, h.s.ilt, h.s.nd⟩, h.inv.change, ⟨h.sm.len, h.sm.b12, fun S hS => (h.sm.bd S hS).mono (Nat.le_succ m), Nat.le_succ_of_le h.sm.giv, ?_, hm9⟩, h.gl, h.iok, h.tf, hg, h.pos, h.ll, h.hl, fun s hs => ?_, h.hpb.mut mt b, ⟨mut_book mt b h.b0.1, h.b0.2⟩, ⟨mut_book mt b h.b1.1, h.b1.2⟩, mut_tup mt b h.hsz, b _ _ (h.lst h.hws w4) h.hws, h.iws, h.wne⟩
  · show (W.past ++ [W.cur]).length ≤ m + 1
    rw [List.length_append]
    exact Nat.succ_le_succ h.sm.pas
  · obtain ⟨q1, q2, q3⟩ := h.sp s hs
    obtain ⟨w0, w1, w2, e1, r⟩ := id q1
    exact ⟨⟨w0, w1, w2, b _ _ (h.lst e1 (fun z => q3 (by rw [z]; simp))) e1, r⟩, q2, q3⟩
/-- a call -/
theorem I67.stepped {c : Call} (h : I67 K spr x pl sz pb k0 k1 hm hd lt ws wss d0 d1 rs0 rs1 H as W lets had n m N) (ok : CallOk W c) (hm9 : m + 16 ≤ 4000) (b : But [x, pl, hm, hd, lt] H H') (hW : WallAt K as H' x pl (callW W c).1) (e1 : H' hm = some (.lst ((callW W c).1.cur.given.map giV))) (e2 : H' hd = some (.lst ((had ++ gotC W c).map V.int))) (e3 : H' lt = some (.lst ((lets ++ letC W c).map V.int))) :
    I67 K spr x pl sz pb k0 k1 hm hd lt ws wss d0 d1 rs0 rs1 H' as (callW W c).1 (lets ++ letC W c) (had ++ gotC W c) (n + 1) (m + 16) N := by
  have st := call_step h.inv.gok ok
  have hlc := letC_len h.good h.sm.b12 c
  have hgc := gotC_len h.inv h.sm ok
  have w5 : ws ∉ [x, pl, hm, hd, lt] := fun z => by
    rcases List.mem_cons.mp z with z | z
    · exact h.s.xne h.hws z.symm
    · exact h.wne z
  have mt : ∀ c ∈ [x, pl, hm, hd, lt], Mut as H c := fun c hc => by
    simp only [List.mem_cons, List.not_mem_nil, or_false] at hc
    rcases hc with rfl | rfl | rfl | rfl | rfl
    · exact h.s.wall.muts _ (by simp)
    · exact h.s.wall.muts _ (by simp)
    · exact .inl ⟨h.s.ihm, _, h.s.hhm⟩
    · exact .inl ⟨h.s.ihd, _, h.s.hhd⟩
    · exact .inl ⟨h.s.ilt, _, h.s.hlt⟩
  have lv : ∀ c ∈ [x, pl, hm, hd, lt], H' c ≠ none := fun c hc e => by
    simp only [List.mem_cons, List.not_mem_nil, or_false] at hc
    rcases hc with rfl | rfl | rfl | rfl | rfl
    · exact hW.here _ (by simp) e
    · exact hW.here _ (by simp) e
    · rw [e1] at e; cases e
    · rw [e2] at e; cases e
    · rw [e3] at e; cases e
  refine ⟨⟨hW, live_but h.s.live b lv, e1, e2, e3, h.s.ihm, h.s.ihd, h.s.ilt, h.s.nd⟩, h.inv.call ok, st.wsm h.good h.sm (by omega), ?_, st.iok h.iok, st.tfw h.good h.tf, by rw [st.rs]; exact h.good, by rw [st.len]; exact h.pos, ?_, ?_, fun s hs => ?_, h.hpb.mut mt b, ⟨mut_book mt b h.b0.1, h.b0.2⟩, ⟨mut_book mt b h.b1.1, h.b1.2⟩, by rw [st.sz]; exact mut_tup mt b h.hsz, b _ _ w5 h.hws, h.iws, h.wne⟩
  · obtain ⟨l, hl, e, _⟩ := st.giv
    rw [e, List.length_append]
    have := h.gl
    omega
  · rw [List.length_append]
    have := h.ll
    omega
  · rw [List.length_append]
    have := h.hl
    omega
  · obtain ⟨q1, q2, q3⟩ := h.sp s hs
    obtain ⟨w0, w1, w2, e1, r⟩ := id q1
    refine ⟨⟨w0, w1, w2, b _ _ (fun z => ?_) e1, r⟩, q2, q3⟩
    rcases List.mem_cons.mp z with z | z
    · exact h.xs hs z.symm
    · refine q3 ?_
      simp only [List.mem_cons, List.not_mem_nil, or_false] at z ⊢
      rcases z with z | z | z | z
      · exact .inl z
      · exact .inr (.inl z)
      · exact .inr (.inr (.inl z))
      · exact .inr (.inr (.inr (.inl z)))
theorem I67.new {L : Addr} (h : I67 K spr x pl sz pb k0 k1 hm hd lt ws wss d0 d1 rs0 rs1 H as W lets had n m N) (nl : H L = none) (s : Same H H') (lv : H' L ≠ none) : I67 K spr x pl sz pb k0 k1 hm hd lt ws wss d0 d1 rs0 rs1 H' (L :: as) W lets had n m N :=
  ⟨⟨(h.s.wall.more nl).same s, fun a ha e => by
    rcases List.mem_cons.mp ha with z | z
    · exact lv (z ▸ e)
    · exact h.s.live a z (s.free e), s _ _ h.s.hhm, s _ _ h.s.hhd, s _ _ h.s.hlt, List.mem_cons_of_mem _ h.s.ihm, List.mem_cons_of_mem _ h.s.ihd, List.mem_cons_of_mem _ h.s.ilt, h.s.nd⟩, h.inv, h.sm, h.gl, h.iok, h.tf, h.good, h.pos, h.ll, h.hl, fun t ht => by
    obtain ⟨q1, q2, q3⟩ := h.sp t ht
    exact ⟨q1.same s, List.mem_cons_of_mem _ q2, q3⟩, (h.hpb.new nl).same s, ⟨h.b0.1.same s, h.b0.2⟩, ⟨h.b1.1.same s, h.b1.2⟩, same_tup s h.hsz, s _ _ h.hws, List.mem_cons_of_mem _ h.iws, h.wne⟩
theorem I67.spring {s : Addr} (h : I67 K spr x pl sz pb k0 k1 hm hd lt ws wss d0 d1 rs0 rs1 H as W lets had n m N) (nl : H s = none) (e : Same H H') (sa : SpringAt H' s N) : I67 K (s :: spr) x pl sz pb k0 k1 hm hd lt ws wss d0 d1 rs0 rs1 H' (s :: as) W lets had n m N := by
  have lv : H' s ≠ none := fun z => by
    obtain ⟨_, _, _, q, _⟩ := sa
    rw [z] at q; cases q
  have h2 := h.new nl e lv
  refine ⟨h2.s, h2.inv, h2.sm, h2.gl, h2.iok, h2.tf, h2.good, h2.pos, h2.ll, h2.hl, fun t ht => ?_, h2.hpb, h2.b0, h2.b1, h2.hsz, h2.hws, h2.iws, h2.wne⟩
  rcases List.mem_cons.mp ht with z | z
  · rw [z]
    refine ⟨sa, by simp, fun y => ?_⟩
    simp only [List.mem_cons, List.not_mem_nil, or_false] at y
    rcases y with y | y | y | y | y
    · exact h.s.wall.here pl (by simp) (y ▸ nl)
    · have := h.s.hhm; rw [← y, nl] at this; cases this
    · have := h.s.hhd; rw [← y, nl] at this; cases this
    · have := h.s.hlt; rw [← y, nl] at this; cases this
    · have := h.hws; rw [← y, nl] at this; cases this
  · exact h2.sp t z
theorem I67.wells (w2 : List Addr) (h : I67 K spr x pl sz pb k0 k1 hm hd lt ws wss d0 d1 rs0 rs1 H as W lets had n m N) : I67 K spr x pl sz pb k0 k1 hm hd lt ws w2 d0 d1 rs0 rs1 (upd H ws (.lst (w2.map V.ref))) as W lets had n m N := by
  have mt : ∀ c ∈ [ws], Mut as H c := fun c hc => by rw [List.mem_singleton.mp hc]; exact .inl ⟨h.iws, _, h.hws⟩
  have b : But [ws] H (upd H ws (.lst (w2.map V.ref))) := (But.refl _ _).put (.inr (by simp))
  have ne : ∀ {c : Addr}, c ∈ [pl, hm, hd, lt] → c ∉ [ws] := fun hc z => h.wne (by rw [← List.mem_singleton.mp z]; exact hc)
  refine ⟨⟨h.s.wall.mut mt b (by simpa using h.s.xne h.hws) (ne (by simp)), live_but h.s.live b (fun c hc e => by rw [List.mem_singleton.mp hc, upd_same] at e; cases e), b _ _ (ne (by simp)) h.s.hhm, b _ _ (ne (by simp)) h.s.hhd, b _ _ (ne (by simp)) h.s.hlt, h.s.ihm, h.s.ihd, h.s.ilt, h.s.nd⟩, h.inv, h.sm, h.gl, h.iok, h.tf, h.good, h.pos, h.ll, h.hl, fun t ht => ?_, h.hpb.mut mt b, ⟨mut_book mt b h.b0.1, h.b0.2⟩, ⟨mut_book mt b h.b1.1, h.b1.2⟩, mut_tup mt b h.hsz, upd_same, h.iws, h.wne⟩
  obtain ⟨q1, q2, q3⟩ := h.sp t ht
  obtain ⟨w0, w1, w2', e1, r⟩ := id q1
  exact ⟨⟨w0, w1, w2', b _ _ (fun z => q3 (by rw [List.mem_singleton.mp z]; simp)) e1, r⟩, q2, q3⟩
end
def W0 (d : Int) (rs : List RuleL) (l : List Int) : WallS := ⟨l, ⟨d, rs, List.replicate l.length S0, []⟩, []⟩
theorem w0_all {d : Int} {rs : List RuleL} {l : List Int} : ∀ S ∈ (W0 d rs l).cur.boxes, S = S0 := fun S hS => List.eq_of_mem_replicate hS
theorem home_nil {i : Nat} {p : Int} (z : Home [] i p) : False := by
  obtain ⟨j, _, e⟩ := z
  simp at e
theorem w0_inv {d : Int} {rs : List RuleL} {l : List Int} : Inv67 (W0 d rs l) [] [] := by
  refine ⟨fun i z => (nomatch z), fun i S hS => ?_, fun p z => (nomatch z)⟩
  have e := w0_all S (List.mem_of_getElem? hS)
  subst e
  exact ⟨.nil, fun p z => (nomatch z), fun p z => (nomatch z), fun p z => home_nil z, fun p z => (nomatch z)⟩
theorem w0_sm {d : Int} {rs : List RuleL} {l : List Int} (g : GoodSizes l) : WSm (W0 d rs l) 0 :=
  ⟨(List.length_replicate ..).symm, by show (List.replicate l.length S0).length ≤ 12; rw [List.length_replicate]; exact g.2.1, fun S hS => by
    rw [w0_all S hS]
    exact ⟨Nat.le_refl 0, Nat.le_refl 0, Nat.le_refl 0, Nat.le_refl 0, Nat.le_refl 0, Nat.le_refl 0, Nat.le_refl 0⟩, Nat.le_refl 0, Nat.le_refl 0, by decide⟩
section
variable {P : Program} {w : World} {K : PySem.W.Frag} {mg : Str → Option Value} {base : Heap}
def sp_law (K : PySem.W.Frag) : Sp := fun vs H Q _ => ∃ (a : Addr) (ns : List Int), vs = [.ref a] ∧ SqL K H a (ns.map V.int) ∧ ns.length ≤ 63 ∧ ∀ H', Q (.bl true) H'
set_option maxHeartbeats 2000000 in
theorem ok_law (T : Txt w K mg) {fd : FuncData} (F : FunD K d_law.name d_law.qual d_law.params d_law.body d_law.scope (d_law.dvs K) (d_law.kws K) (He.fAd K d_law.at_) fd) : FnOk P w K mg base C8.CX0 9 (He.fAd K d_law.at_) fd ["script"] (sp_law K) := by
  have c_law_step := c_law_step (P := P) (w := w) (base := base) T
  have c_law_next := c_law_next (P := P) (w := w) (base := base) T
  have c_law_draw := c_law_draw (P := P) (w := w) (base := base) T
  have c_Wall_change := c_Wall_change (P := P) (w := w) (base := base) T
  have c_law_pick := c_law_pick (P := P) (w := w) (base := base) T
  have c_law_well := c_law_well (P := P) (w := w) (base := base) T
  have c_Wall_init := c_Wall_init (P := P) (w := w) (base := base) T
  have c_law_sizes := c_law_sizes (P := P) (w := w) (base := base) T
  have c_law_book := c_law_book (P := P) (w := w) (base := base) T
  have c_law_rules := c_law_rules (P := P) (w := w) (base := base) T
  have c_law_number := c_law_number (P := P) (w := w) (base := base) T
  refine F.ok sc_law (fun vs H Q E h => ?_) (fun cdv A outer s H vs Q E hr h => ?_)
  · obtain ⟨a, ns, rfl, _⟩ := h
    rfl
  · have hu := L2.hu_of hr
    obtain ⟨a, ns, rfl, hS, _, q⟩ := h
    refine ⟨_, (PSs.nox ((pss_cons (ps_set (i := 1) sc_law.nd rfl (by first | exact Or.inl rfl | exact Or.inr rfl) (C8.pe_c c_law_well hr (by decide) rfl (pa_cons (pv 0) (pa_cons pe_int pa_nil))))
  (pss_cons (ps_setLc (i := 2) (own := [("k", 3)]) (g := (gName 3)) (tt := tYes) (by rfl) sc_law.nd rfl rfl (sw_true rfl rfl rfl (by decide +kernel)) (pi_range1 (by rfl) T.range (pa_cons pe_int pa_nil)) (blkOk_by (N := N_law) (sc := defScope s_law) (by decide +kernel)) (fun _ _ _ _ _ => (pg_name (i := 3) sc_law.nd rfl (by first | exact Or.inl rfl | exact Or.inr rfl))) (fun _ _ _ _ _ => pts_nil) (fun _ _ _ _ _ => (C8.pe_c c_law_book hr (by decide) rfl (pa_cons (C8.pe_c c_law_number hr (by decide) rfl (pa_cons (pv 1) pa_nil)) (pa_cons (C8.pe_c c_law_rules hr (by decide) rfl (pa_cons (pv 1) pa_nil)) (pa_cons (C8.pe_c c_law_draw hr (by decide) rfl (pa_cons (pv 1) (pa_cons pe_int pa_nil))) pa_nil))))))
  (pss_cons (ps_asg (pe_tup (pa_cons (C8.pe_c c_law_sizes hr (by decide) rfl (pa_cons (pv 1) pa_nil)) (pa_cons (pe_lst pa_nil) (pa_cons (pe_lst pa_nil) (pa_cons (pe_lst pa_nil) pa_nil))))) (My.pg_tupK (K := K) (n := 4) rfl rfl (pgs_cons (pg_name (i := 4) sc_law.nd rfl (by first | exact Or.inl rfl | exact Or.inr rfl)) (pgs_cons (pg_name (i := 5) sc_law.nd rfl (by first | exact Or.inl rfl | exact Or.inr rfl)) (pgs_cons (pg_name (i := 6) sc_law.nd rfl (by first | exact Or.inl rfl | exact Or.inr rfl)) (pgs_cons (pg_name (i := 7) sc_law.nd rfl (by first | exact Or.inl rfl | exact Or.inr rfl)) pgs_nil))))))
  (pss_cons (ps_set (i := 8) sc_law.nd rfl (by first | exact Or.inl rfl | exact Or.inr rfl) (C8.pe_mk c_Wall_init hr (by decide) rfl (pa_cons (pe_ix (My.ix_listK (K := K) rfl) (pv 2) pe_int (fun _ _ => rfl)) (pa_cons (pv 4) pa_nil))))
  (pss_cons (ps_setLc (i := 9) (own := [("k", 3)]) (g := (gName 3)) (tt := tYes) (by rfl) sc_law.nd rfl rfl (sw_true rfl rfl rfl (by decide +kernel)) (pi_range1 (by rfl) T.range (pa_cons (pe_op op_add pe_int (C8.pe_c c_law_draw hr (by decide) rfl (pa_cons (pv 1) (pa_cons pe_int pa_nil)))) pa_nil)) (blkOk_by (N := N_law) (sc := defScope s_law) (by decide +kernel)) (fun _ _ _ _ _ => (pg_name (i := 3) sc_law.nd rfl (by first | exact Or.inl rfl | exact Or.inr rfl))) (fun _ _ _ _ _ => pts_nil) (fun _ _ _ _ _ => (pv 1)))
  (pss_cons (ps_for PassesOwn.never rfl (pi_range2 (by rfl) T.range (pa_cons pe_int (pa_cons (pe_callB (call_min2 rfl) (by rfl) T.min (by decide +kernel) (pa_cons pe_int (pa_cons (pe_callB (My.len_seqK (K := K) rfl) (by rfl) T.len (by decide +kernel) (pa_cons (pv 0) pa_nil)) pa_nil))) pa_nil))) (pg_name (i := 3) sc_law.nd rfl (by first | exact Or.inl rfl | exact Or.inr rfl))
  (pss_cons (ps_set (i := 10) sc_law.nd rfl (by first | exact Or.inl rfl | exact Or.inr rfl) (C8.pe_c c_law_well hr (by decide) rfl (pa_cons (pv 0) (pa_cons (pv 3) pa_nil))))
  (pss_one (ps_expr (My.pe_bmK (K := K) rfl PySem.F.plainAttrs_list PySem.F.slot_list_extend PySem.F.type_list_extend mt_extend (pv 9) (pa_cons (pe_lc (own := [("turn", 11)]) (g := (gName 11)) (tt := tYes) (by rfl) sc_law.nd (pi_range1 (by rfl) T.range (pa_cons (pe_op op_add pe_int (C8.pe_c c_law_draw hr (by decide) rfl (pa_cons (pv 10) (pa_cons pe_int pa_nil)))) pa_nil)) (blkOk_by (N := N_law) (sc := defScope s_law) (by decide +kernel)) (fun _ _ _ _ _ => (pg_name (i := 11) sc_law.nd rfl (by first | exact Or.inl rfl | exact Or.inr rfl))) (fun _ _ _ _ _ => pts_nil) (fun _ _ _ _ _ => (pv 10))) pa_nil))))))
  (pss_cons (ps_for PassesOwn.never rfl (My.pi_listK (K := K) rfl (pv 9)) (pg_name (i := 10) sc_law.nd rfl (by first | exact Or.inl rfl | exact Or.inr rfl))
  (pss_cons (ps_if (pt_cmpR op_eq (C8.pe_c c_law_draw hr (by decide) rfl (pa_cons (pv 10) (pa_cons pe_int pa_nil))) pe_int (nomark _))
  (pss_one (ps_expr (C8.pe_mt c_Wall_change hr (by decide) (pv 8) (pa_cons (C8.pe_c c_law_pick hr (by decide) rfl (pa_cons (pv 10) (pa_cons (pv 2) pa_nil))) pa_nil))))
  pss_nil)
  (pss_cons (ps_set (i := 12) sc_law.nd rfl (by first | exact Or.inl rfl | exact Or.inr rfl) (C8.pe_c c_law_next hr (by decide) rfl (pa_cons (pv 10) (pa_cons (pe_callB (My.len_seqK (K := K) rfl) (by rfl) T.len (by decide +kernel) (pa_cons (pv 4) pa_nil)) (pa_cons (pe_callB (My.len_seqK (K := K) rfl) (by rfl) T.len (by decide +kernel) (pa_cons (pv 5) pa_nil)) pa_nil)))))
  (pss_one (ps_if (pt_not (pt_val (C8.pe_c c_law_step hr (by decide) rfl (pa_cons (pv 8) (pa_cons (pv 4) (pa_cons (pv 12) (pa_cons (pv 5) (pa_cons (pv 6) (pa_cons (pv 7) pa_nil)))))))))
  (pss_one (ps_ret pe_bl))
  pss_nil)))))
  (pss_one (ps_ret pe_bl))))))))))), ?_⟩
    refine ⟨_, rfl, a, ns, 0, rfl, hS, by decide, by decide, fun H1 p np s1 sp1 => ?_⟩
    have lsp : ∀ {HH : Hp} {N : Nat}, SpringAt HH p N → HH p ≠ none := fun h z => by
      obtain ⟨w0, w1, w2, e, _⟩ := h
      rw [z] at e; cases e
    have lp1 := lsp sp1
    have fr : ∀ c ∈ [p], H c = none := fun c hc => by rw [List.mem_singleton.mp hc]; exact np
    have inp : ∀ {H' : Hp} {N : Nat}, SpringAt H' p N → ∀ c ∈ [p], Mut [p] H' c := fun z => z.mut (by simp)
    refine ⟨2, rfl, by decide, by decide, fun pb hpb => ?_⟩
    have npb : pb ≠ p := fun z => lp1 (z ▸ hpb)
    refine lc_range (lo := 0) (n := (2 : Int).toNat) (fun i H' => ∃ (ks : List Addr) (ps : List (Int × List RuleL)), ks.length = i ∧ Same H H' ∧ SpringAt H' p (1 + 80 * i) ∧ H' pb = some (.lst (ks.map V.ref)) ∧ Paired (fun k (y : Int × List RuleL) => BookAt K H' k y.1 y.2 ∧ GoodB y.2 ∧ 1 ≤ y.1 ∧ y.1 ≤ 30) ks ps) ⟨[], [], rfl, s1.trans (same_new hpb), sp1.same (same_new hpb), upd_same, .nil⟩ ?_ ?_
    · rintro i HA hi ⟨ks, ps, hl, sA, spA, hDA, hP⟩
      refine ⟨rfl, ?_⟩
      refine ⟨_, rfl, p, 1 + 80 * i, rfl, spA, by omega, fun HB d bB spB d1 d2 => ?_⟩
      refine ⟨_, rfl, p, _, rfl, spB, by omega, fun HC rl rs bC spC hR hg nrl => ?_⟩
      refine ⟨_, rfl, p, _, 4, rfl, spC, lt100 _ (by omega), by decide, by decide, fun HD way bD spD w0 w1 => ?_⟩
      have mR : ∀ c ∈ [p], Mut [p] HC c := inp spC
      have nrp : rl ∉ [p] := fun z => by
        obtain ⟨_, _, _, e, _⟩ := spB
        rw [List.mem_singleton.mp z, e] at nrl
        cases nrl
      have hRD : RlAt K [p] HD rl rs := RlAt.mut mR bD ⟨hR, nrp⟩
      refine ⟨rl, d, way, rs, rfl, hRD.1, hg, d1, d2, fun HE b nb sE hB => ?_⟩
      have hDE := sE _ _ (bD _ _ (by simpa using npb) (bC _ _ (by simpa using npb) (bB _ _ (by simpa using npb) hDA)))
      have bAE : But [p] HA HE := ((bB.trans bC).trans bD).trans (But.of sE)
      refine ⟨_, hDE, by rw [List.length_map, hl]; exact lt_line (by omega), ks ++ [b], ps ++ [(d, rs)], by rw [List.length_append, hl]; rfl, same_upd (same_but sA bAE fr) (s1.free hpb), ?_, by rw [upd_same, List.map_append]; rfl, paired_app (paired_map (fun _ _ _ z => ⟨BookAt.putL hDE (mut_book (inp spA) bAE z.1), z.2⟩) hP) (.cons ⟨BookAt.putL hDE hB, hg, d1, d2⟩ .nil)⟩
      exact SpringAt.mono ((spD.same sE).put npb.symm) (by omega)
    rintro H2 ⟨ks, ps, hl, s2, sp2, hpb2, hP⟩
    obtain ⟨k0, k1, rfl⟩ : ∃ k0 k1, ks = [k0, k1] := by
      match ks, hl with
      | [u, v], _ => exact ⟨u, v, rfl⟩
    obtain ⟨⟨d, rs⟩, ⟨d1, rs1⟩, rfl, ⟨hB0, g0, e1, e2⟩, ⟨hB1, g1, f1, f2⟩⟩ : ∃ y0 y1 : Int × List RuleL, ps = [y0, y1] ∧ (BookAt K H2 k0 y0.1 y0.2 ∧ GoodB y0.2 ∧ 1 ≤ y0.1 ∧ y0.1 ≤ 30) ∧ (BookAt K H2 k1 y1.1 y1.2 ∧ GoodB y1.2 ∧ 1 ≤ y1.1 ∧ y1.1 ≤ 30) := by
      cases hP with
      | cons r t => cases t with
        | cons r2 t => cases t with
          | nil => exact ⟨_, _, rfl, r, r2⟩
    refine ⟨_, rfl, p, _, rfl, sp2, by decide, fun H3 sz l b3 sp3 hz3 gz => ⟨Nat.zero_le _, fun hm nhm => ⟨Nat.zero_le _, fun hd nhd => ⟨Nat.zero_le _, fun lt nlt => ⟨by show 4 ≤ sizeLine; decide, fun u hu => ?_⟩⟩⟩⟩⟩
    have y1 := same_new (o := .lst []) nhm
    have y2 := same_new (o := .lst []) nhd
    have y3 := same_new (o := .lst []) nlt
    have y4 := same_new (o := .tup [V.ref sz, .ref hm, .ref hd, .ref lt]) hu
    have yc := ((y1.trans y2).trans y3).trans y4
    have b4 := b3.trans (But.of yc)
    have zhd : H3 hd = none := y1.free nhd
    have zlt : H3 lt = none := y1.free (y2.free nlt)
    have hm_hd : hm ≠ hd := ne_of_none upd_same nhd
    have hm_lt : hm ≠ lt := ne_of_none (y2 _ _ upd_same) nlt
    have hd_lt : hd ≠ lt := ne_of_none upd_same nlt
    have hhm4 := y4 _ _ (y3 _ _ (y2 _ _ (upd_same (H := H3) (a := hm) (o := .lst []))))
    have hhd4 := y4 _ _ (y3 _ _ (upd_same (H := upd H3 hm (.lst [])) (a := hd) (o := .lst [])))
    have hlt4 := y4 _ _ (upd_same (H := upd (upd H3 hm (.lst [])) hd (.lst [])) (a := lt) (o := .lst []))
    have sp4 := sp3.same yc
    have hz4 := same_tup yc hz3
    have hpb3 := b3 _ _ (by simpa using npb) hpb2
    have frp : ∀ {c : Addr}, H3 c = none → c ≠ p ∧ c ≠ pb := fun e => ⟨fun z => lsp sp3 (z ▸ e), fun z => by rw [z, hpb3] at e; cases e⟩
    obtain ⟨hm_p, hm_pb⟩ := frp nhm
    obtain ⟨hd_p, hd_pb⟩ := frp zhd
    obtain ⟨lt_p, lt_pb⟩ := frp zlt
    refine ⟨_, _, rfl, SqT.of upd_same, rfl, ?_⟩
    refine ⟨_, _, rfl, _, _, rfl, _, _, rfl, _, _, rfl, rfl, ?_⟩
    show Ends.nx _ _ (upd (upd (upd (upd H3 hm (.lst [])) hd (.lst [])) lt (.lst [])) u (.tup [V.ref sz, .ref hm, .ref hd, .ref lt]))
    generalize upd (upd (upd (upd H3 hm (.lst [])) hd (.lst [])) lt (.lst [])) u (.tup [V.ref sz, .ref hm, .ref hd, .ref lt]) = H4 at b4 hhm4 hhd4 hlt4 sp4 hz4
    have lp4 := lsp sp4
    have hpb4 := b4 _ _ (by simpa using npb) hpb2
    have hB04 := mut_book (inp sp2) b4 hB0
    have hB14 := mut_book (inp sp2) b4 hB1
    have lv : ∀ {c : Addr} {A B : Hp}, Same A B → A c ≠ none → B c ≠ none := fun s h e => h (s.free e)
    refine ⟨_, rfl, pb, _, ((0 : Nat) : Int), _, rfl, rfl, SqL.of hpb4, atI_nat rfl, _, rfl, ?_⟩
    intro x dx nx ndx nex
    have tA : Same H4 (upd (upd H4 dx (.own x)) x (.ins (He.ga K "Wall") dx [])) := (same_new ndx).trans (same_upd (Same.refl _) (by rw [upd_ne nex.symm]; exact nx))
    refine ⟨x, dx, k0, sz, d, rs, l, rfl, upd_same, hB04.same tA, g0, same_tup tA hz4, gz, fun H5 pl b5 npl hW => ⟨rfl, ?_⟩⟩
    have s5 : Same H4 H5 := same_but tA b5 (fun c hc => by rw [List.mem_singleton.mp hc]; exact nx)
    have npl4 : H4 pl = none := tA.free npl
    have l4 : ∀ c ∈ [hm, hd, lt, p], H4 c ≠ none := fun c hc e => by
      simp only [List.mem_cons, List.not_mem_nil, or_false] at hc
      rcases hc with rfl | rfl | rfl | rfl
      · rw [hhm4] at e; cases e
      · rw [hhd4] at e; cases e
      · rw [hlt4] at e; cases e
      · exact lp4 e
    have w5 := hW [hm, hd, lt, p] (fun c hc => lv tA (l4 c hc))
    have plne : ∀ c ∈ [hm, hd, lt, p], pl ≠ c := fun c hc z => l4 c hc (z ▸ npl4)
    have S5 : S67 K [pl, hm, hd, lt, p] H5 x pl hm hd lt (W0 d rs l) [] [] [] := by
      refine ⟨w5, fun c hc => ?_, s5 _ _ hhm4, s5 _ _ hhd4, s5 _ _ hlt4, by simp, by simp, by simp, ?_⟩
      · rcases List.mem_cons.mp hc with z | z
        · rw [z]; exact w5.here _ (by simp)
        · exact lv s5 (l4 c z)
      · simp only [List.nodup_cons, List.mem_cons, List.not_mem_nil, or_false, not_or, List.nodup_nil, and_true, not_false_eq_true]
        exact ⟨⟨plne hm (by simp), plne hd (by simp), plne lt (by simp)⟩, ⟨hm_hd, hm_lt⟩, hd_lt⟩
    have sH5 : Same H H5 := (same_but s2 b4 fr).trans s5
    have sp5 : SpringAt H5 p _ := sp4.same s5
    have hpb5 := s5 _ _ hpb4
    have hB05 := hB04.same s5
    have hB15 := hB14.same s5
    have hz5 := same_tup s5 hz4
    have pb5 : pb ∉ [pl, hm, hd, lt, p] := fun z => by
      simp only [List.mem_cons, List.not_mem_nil, or_false] at z
      rcases z with z | z | z | z | z
      · rw [z, npl4] at hpb4; cases hpb4
      · exact hm_pb z.symm
      · exact hd_pb z.symm
      · exact lt_pb z.symm
      · exact npb z
    -- the springs
    refine ⟨_, rfl, p, 300, 16, rfl, sp5.mono (by decide), lt100 _ (by decide), by decide, by decide, fun H6 kk b6 sp6 j0 j1 => ⟨_, _, rfl, rfl, ⟨1 + kk, rfl, by omega, by omega, fun ws hws => ?_⟩⟩⟩
    have xp : x ≠ p := fun z => by
      obtain ⟨_, _, _, q1, _⟩ := sp5
      obtain ⟨dx1, _, _, _, _, _, h1, _⟩ := S5.wall
      rw [z, q1] at h1
      cases h1
    have l1k : (1 + kk).toNat ≤ 16 := by omega
    have sH6 := same_but sH5 b6 fr
    have mp := sp5.mut (as := [pl, hm, hd, lt, p]) (by simp)
    have one : ∀ {c : Addr}, c ≠ p → c ∉ [p] := fun e => by simpa using e
    have plp : pl ≠ p := plne p (by simp)
    have S6 : S67 K [pl, hm, hd, lt, p] H6 x pl hm hd lt (W0 d rs l) [] [] [] :=
      ⟨S5.wall.mut mp b6 (one xp) (one plp), live_but S5.live b6 (fun c hc e => by rw [List.mem_singleton.mp hc] at e; exact lsp sp6 e), b6 _ _ (one hm_p) S5.hhm, b6 _ _ (one hd_p) S5.hhd, b6 _ _ (one lt_p) S5.hlt, S5.ihm, S5.ihd, S5.ilt, S5.nd⟩
    have hpb6 := b6 _ _ (one npb) hpb5
    have hB06 := mut_book mp b6 hB05
    have hB16 := mut_book mp b6 hB15
    have hz6 := mut_tup mp b6 hz5
    have wsO : ws ∉ [pl, hm, hd, lt] := fun z => S6.live ws (by
      simp only [List.mem_cons, List.not_mem_nil, or_false] at z ⊢
      rcases z with z | z | z | z
      · exact .inl z
      · exact .inr (.inl z)
      · exact .inr (.inr (.inl z))
      · exact .inr (.inr (.inr (.inl z)))) hws
    have wsp : ws ≠ p := fun z => lsp sp6 (z ▸ hws)
    refine lc_range (lo := 0) (n := (1 + kk).toNat) (fun i H' => Same H6 H' ∧ H' ws = some (.lst ((List.replicate i p).map V.ref))) ⟨same_new hws, upd_same⟩ ?_ ?_
    · rintro i HA hi ⟨sA, hDA⟩
      refine ⟨rfl, ?_⟩
      refine ⟨_, rfl, _, hDA, ?_, same_upd sA hws, ?_⟩
      · rw [List.length_map, List.length_replicate]
        exact lt_line (by omega)
      · rw [upd_same, List.replicate_succ', List.map_append]
        rfl
    rintro H7 ⟨s7, hws7⟩
    have lws : H7 ws ≠ none := fun z => by rw [hws7] at z; cases z
    have sH7 := sH6.trans s7
    have hI7 : I67 K [p] x pl sz pb k0 k1 hm hd lt ws (List.replicate (1 + kk).toNat p) d d1 rs rs1 H7 (ws :: [pl, hm, hd, lt, p]) (W0 d rs l) [] [] 0 0 301 := by
      refine ⟨⟨(S6.wall.more hws).same s7, fun a ha e => ?_, s7 _ _ S6.hhm, s7 _ _ S6.hhd, s7 _ _ S6.hlt, by simp, by simp, by simp, S6.nd⟩, w0_inv, w0_sm gz, Nat.le_refl _, fun S hS p hp => by rw [w0_all S hS] at hp; exact (nomatch hp), fun S hS => by rw [w0_all S hS]; exact (by decide +kernel : PyData.canLay0 (.str ("free" : Str)) = true), g0, ?_, Nat.zero_le _, Nat.zero_le _, fun s hs => ?_, ⟨s7 _ _ hpb6, fun z => ?_⟩, ⟨hB06.same s7, g0⟩, ⟨hB16.same s7, g1⟩, same_tup s7 hz6, hws7, by simp, wsO⟩
      · rcases List.mem_cons.mp ha with z | z
        · exact lws (z ▸ e)
        · exact S6.live a z (s7.free e)
      · show 0 < (List.replicate l.length S0).length
        rw [List.length_replicate]
        exact gz.1
      · rw [List.mem_singleton.mp hs]
        refine ⟨(sp6.same s7).mono (by decide), by simp, fun z => ?_⟩
        simp only [List.mem_cons, List.not_mem_nil, or_false] at z
        rcases z with z | z | z | z | z
        · exact plp z.symm
        · exact hm_p z.symm
        · exact hd_p z.symm
        · exact lt_p z.symm
        · exact wsp z.symm
      · rcases List.mem_cons.mp z with z | z
        · rw [z, hws] at hpb6; cases hpb6
        · exact pb5 z
    clear S6 S5 w5 hpb6 hB06 hB16 hz6 hpb5 hB05 hB15 hz5
    obtain ⟨mm, hmm, em⟩ : ∃ mm : Int, (-1 ≤ mm ∧ mm ≤ 63) ∧ mm = (if ((ns.map V.int).length : Int) < 63 then ((ns.map V.int).length : Int) else 63) := ⟨_, by split <;> omega, rfl⟩
    refine ⟨_, rfl, a, _, rfl, .inl (sH7.seq hS), 63, _, rfl, 1, mm, by rw [em], ⟨by decide, by decide, by omega, by omega⟩, ?_⟩
    refine for_range (lo := 1) (n := (mm - 1).toNat) (fun i σ H' => ∃ (as spr wss : List Addr) (u3 u10 : Option V), σ = [some (.ref a), some (.ref p), some (.ref pb), u3, some (.ref sz), some (.ref hm), some (.ref hd), some (.ref lt), some (.ref x), some (.ref ws), u10, none, none] ∧ I67 K spr x pl sz pb k0 k1 hm hd lt ws wss d d1 rs rs1 H' as (W0 d rs l) [] [] 0 0 301 ∧ p ∈ spr ∧ (∀ s ∈ wss, s ∈ spr) ∧ wss.length ≤ 16 + 2 * i ∧ Same H H')
      ⟨_, _, _, _, _, rfl, hI7, by simp, fun s hs => (by rw [List.eq_of_mem_replicate hs]; simp), by rw [List.length_replicate]; omega, sH7⟩ ?_ ?_
    · rintro i σ HI hi ⟨as, spr, wss, u3, u10, rfl, hI, hps, wsI, lI, sI⟩
      refine ⟨_, rfl, _, rfl, a, ns, _, rfl, sI.seq hS, by omega, by omega, fun HJ s nsp s2 sps => ?_⟩
      have hJ := hI.spring nsp s2 (sps.mono (m := 301) (by decide))
      have sJ := sI.trans s2
      refine ⟨_, rfl, .inl ⟨rfl, _, SqL.of hJ.hws⟩, ?_⟩
      refine ⟨_, rfl, s, 1, 2, rfl, sps, by decide, by decide, by decide, fun H3 k3 b3 sp3 k30 k31 => ⟨_, _, rfl, rfl, ⟨1 + k3, rfl, by omega, by omega, fun D3 hD3 => ?_⟩⟩⟩
      have h3 := hJ.draw (s := s) (by simp) b3 (sp3.mono (m := 301) (by decide)) (Nat.le_refl _)
      have sI3 := same_but sJ b3 (fun c hc => by rw [List.mem_singleton.mp hc]; exact sI.free nsp)
      have l3 : (1 + k3).toNat ≤ 2 := by omega
      refine lc_range (lo := 0) (n := (1 + k3).toNat) (fun i H' => Same H3 H' ∧ H' D3 = some (.lst ((List.replicate i s).map V.ref))) ⟨same_new hD3, upd_same⟩ ?_ ?_
      · rintro i2 HA hi2 ⟨sA, hDA⟩
        refine ⟨rfl, ?_⟩
        refine ⟨_, rfl, _, hDA, ?_, same_upd sA hD3, ?_⟩
        · rw [List.length_map, List.length_replicate]
          exact lt_line (by omega)
        · rw [upd_same, List.replicate_succ', List.map_append]
          rfl
      rintro H4' ⟨s4, hD4⟩
      have h4 := h3.same s4
      refine ⟨ws, D3, _, _, rfl, rfl, h4.hws, hD4, ?_, ?_⟩
      · rw [List.length_map, List.length_map, List.length_replicate]
        exact Nat.le_of_lt (lt_line (by omega))
      · rw [← List.map_append]
        have nwsH : H ws = none := sH6.free hws
        refine ⟨_, _, wss ++ List.replicate (1 + k3).toNat s, _, _, rfl, h4.wells _, List.mem_cons_of_mem _ hps, fun x hx => ?_, ?_, same_upd (sI3.trans s4) nwsH⟩
        · rcases List.mem_append.mp hx with z | z
          · exact List.mem_cons_of_mem _ (wsI x z)
          · rw [List.eq_of_mem_replicate z]
            simp
        · rw [List.length_append, List.length_replicate]
          omega
    rintro σ HI ⟨as, spr, wss, u3, u10, rfl, hI, hps, wsI, lI, sI⟩
    have lw : wss.length ≤ 140 := by omega
    refine ⟨_, rfl, ws, rfl, ⟨_, SqL.of hI.hws⟩, ?_⟩
    refine for_list (K := K) (a := ws) (xs := wss.map V.ref) (fun i σ H' => ∃ (W : WallS) (lets had : List Int) (u10 u12 : Option V), σ = [some (.ref a), some (.ref p), some (.ref pb), u3, some (.ref sz), some (.ref hm), some (.ref hd), some (.ref lt), some (.ref x), some (.ref ws), u10, none, u12] ∧ I67 K spr x pl sz pb k0 k1 hm hd lt ws wss d d1 rs rs1 H' as W lets had i (17 * i) (301 + 10 * i))
      ⟨_, _, _, _, _, rfl, hI⟩ (fun i σ H' _ z => ?_) ?_ ?_
    · obtain ⟨_, _, _, _, _, _, z⟩ := z
      exact SqL.of z.hws
    · rintro i v σ H2 hi ⟨W, lets, had, u10, u12, rfl, hI2⟩
      have hi2 := (List.getElem?_eq_some_iff.mp hi).1
      rw [List.length_map] at hi2
      obtain ⟨s, hs, rfl⟩ := map_get hi
      have hsm : s ∈ spr := wsI s (List.mem_of_getElem? hs)
      have rest : ∀ (H3 : Hp) (W3 : WallS), I67 K spr x pl sz pb k0 k1 hm hd lt ws wss d d1 rs rs1 H3 as W3 lets had i (17 * i + 1) (301 + 10 * i + 2) → ∀ Dn : Ends, (∀ (H' : Hp) (W' : WallS) (l2 h2 : List Int) (u : Option V), I67 K spr x pl sz pb k0 k1 hm hd lt ws wss d d1 rs rs1 H' as W' l2 h2 (i + 1) (17 * (i + 1)) (301 + 10 * (i + 1)) → Dn.nx [some (.ref a), some (.ref p), some (.ref pb), u3, some (.ref sz), some (.ref hm), some (.ref hd), some (.ref lt), some (.ref x), some (.ref ws), some (.ref s), none, u] H') →
          (tSeq
            (tAsg
              (tCall (sp_law_next K) [] C8.E0
                (tCons (tVar 10)
                  (tCons (tCB (rLenQ K) (tCons (tVar 4) tNil)) (tCons (tCB (rLenQ K) (tCons (tVar 5) tNil)) tNil))))
              (gName 12))
            (tIfS
              (tNot
                (tB
                  (tCall (sp_law_step K) [] C8.E0
                    (tCons (tVar 8)
                      (tCons (tVar 4) (tCons (tVar 12) (tCons (tVar 5) (tCons (tVar 6) (tCons (tVar 7) tNil)))))))))
              (tRet (tC (V.bl false))) tNext)) Dn [some (.ref a), some (.ref p), some (.ref pb), u3, some (.ref sz), some (.ref hm), some (.ref hd), some (.ref lt), some (.ref x), some (.ref ws), some (.ref s), none, u12] H3 := by
        intro H3 W3 hI3 Dn hDn
        obtain ⟨sp3, sin3, sout3⟩ := hI3.sp s hsm
        have gl3 := hI3.gl
        refine ⟨_, rfl, _, rfl, sz, _, rfl, .inr hI3.hsz, _, rfl, hm, _, rfl, .inl (SqL.of hI3.s.hhm), ?_⟩
        refine ⟨s, _, W3, by rw [List.length_map, List.length_map, hI3.sm.len]; rfl, sp3, by omega, hI3.pos, hI3.sm.b12, by omega, fun H4 ca c b4 sp4 hca hok => ?_⟩
        have hI4 := hI3.draw hsm b4 (sp4.mono (m := 301 + 10 * (i + 1)) (by omega)) (by omega)
        have ll4 := hI4.ll
        have hl4 := hI4.hl
        refine ⟨_, rfl, _, rfl, _, rfl, _, rfl, _, rfl, _, rfl, x, pl, sz, ca, hm, hd, lt, as, W3, lets, had, c, 17 * i + 1, rfl, hI4.s.wall, hI4.s.live, hI4.sm, by omega, by omega, hI4.iok, hI4.inv, hI4.hsz, hca, hok, hI4.tf, hI4.good, hI4.s.hhm, hI4.s.hhd, hI4.s.hlt, hI4.s.ihm, hI4.s.ihd, hI4.s.ilt, hI4.s.nd, by omega, by omega, fun H5 b5 hW5 g1' g2' g3' => ⟨true, rfl, L2.iteF ?_⟩⟩
        exact hDn _ _ _ _ _ ((hI4.stepped hok (by omega) b5 hW5 g1' g2' g3').up (by omega) (by omega))
      obtain ⟨sp2', sin, sout⟩ := hI2.sp s hsm
      refine ⟨_, rfl, s, _, 12, rfl, sp2', lt100 _ (by omega), by decide, by decide, fun H3 k b3 sp3 k0' k1' => ⟨rfl, _, rfl, L2.ite2 (fun c => ?_) (fun c => ?_)⟩⟩
      · have hI3 := hI2.draw hsm b3 sp3 (by omega)
        obtain ⟨dx3, _, _, _, _, _, hx3, _⟩ := id hI3.s.wall
        obtain ⟨sp3', sin3, sout3⟩ := hI3.sp s hsm
        refine ⟨_, rfl, x, dx3, _, rfl, hx3, rfl, ?_⟩
        refine ⟨_, rfl, _, rfl, s, pb, _, [.ref k0, .ref k1], rfl, sp3', by omega, .inl ⟨hI3.hpb.1, fun z => hI3.hpb.2 (z ▸ sin3)⟩, (by show 0 < 2; decide), (by show 2 ≤ 100; decide), fun H4 j v b4 sp4 hv => ?_⟩
        have hI4 := hI3.draw hsm b4 sp4 (by omega)
        obtain ⟨kx, dx, rsx, rfl, hBx, hgx⟩ : ∃ kx dx rsx, v = .ref kx ∧ BookAt K H4 kx dx rsx ∧ GoodB rsx := by
          match j, hv with
          | 0, hv => exact ⟨k0, d, rs, (Option.some.inj hv).symm, hI4.b0.1, hI4.b0.2⟩
          | 1, hv => exact ⟨k1, d1, rs1, (Option.some.inj hv).symm, hI4.b1.1, hI4.b1.2⟩
        have hpas := hI4.sm.pas
        refine ⟨x, pl, kx, as, W, dx, rsx, rfl, hI4.s.wall, hI4.s.live, hI4.sm.b12, by omega, hBx, hgx, fun H5 b5 hW5 => ?_⟩
        exact rest _ _ ((hI4.changed b5 hW5 hgx (by omega)).mono (by omega)) _ (fun H' W' l2 h2 u hI' => ⟨W', l2, h2, _, _, rfl, hI'⟩)
      · have hI3 := hI2.draw hsm b3 sp3 (by omega)
        exact rest _ _ ((hI3.mono (by omega)).up (by omega) (by omega)) _ (fun H' W' l2 h2 u hI' => ⟨W', l2, h2, _, _, rfl, hI'⟩)
    · rintro σ H2 ⟨W, lets, had, u10, u12, rfl, hI2⟩
      exact q H2
theorem c_law (T : Txt w K mg) : C8.Cal P w K mg base 9 "law" (sp_law K) [] := by
  obtain ⟨fd, F⟩ := T.f_law
  exact ⟨_, fd, _, _, ok_law T F, T.g_law, F.kp, F.bindsN (fun _ _ _ _ _ _ us hl => match us, hl with | [_], _ => rfl), .nil⟩
end
end K67

namespace K67
open PySem PySem.Spec PyProof.Rows L2 My
abbrev spLaw (K : PySem.W.Frag) : Sp := sp_law K
theorem law_end {P : Program} {w : World} {K : PySem.W.Frag} {mg : Str → Option Value} {fa : Addr} (T : Txt w K mg) (hmg : mg ("law" : Str) = some (.ref fa)) :
    ∃ fd, (∀ (s : Shared) (u : Value), BindsTo s fd ⟨[u], []⟩ [("script", u)]) ∧ ∀ base : Heap, K.In base → base.Ns mainGlobals mg → FnOk P w K mg base L2.CX0 9 fa fd ["script"] (spLaw K) := by
  obtain ⟨fd, F⟩ := T.f_law
  have e : fa = He.fAd K d_law.at_ := by
    have h := T.g_law
    rw [hmg] at h
    exact Value.ref.inj (Option.some.inj h)
  subst e
  exact ⟨fd, fun s u => F.bindsA (ps := ["script"]) (fun _ _ _ _ _ _ us hl => match us, hl with | [_], _ => rfl) s [u] rfl, fun base _ _ => ok_law T F⟩
end K67

open PySem PySem.W PySem.Calls PyProof.Rows in
set_option maxRecDepth 100000 in
set_option maxHeartbeats 0 in
theorem PySem.Challenge.cw_lockerwall_k67_whole_where_parcels_are_holds : PySem.Challenge.rw_lockerwall_k67_whole_where_parcels_are.Holds := by
  w_on; o_law
  refine HandSHeadRun.head_any (r := OpenLaw.row PySem.Challenge.rw_lockerwall_k67_whole_where_parcels_are) (q := view (OpenLaw.row PySem.Challenge.rw_lockerwall_k67_whole_where_parcels_are).prog [62]) (H := K67.hk) (ob := K67.ob) (M := 9000) (loose := K67.loose) (d := HandSHeadRun.topDef (OpenLaw.row PySem.Challenge.rw_lockerwall_k67_whole_where_parcels_are).prog 62) (kwd := []) K67.ob_eq
    (by kernel_rfl) (fun s => by kernel_rfl) K67.run (by kernel_rfl) (by kernel_rfl) (by kernel_rfl) (by rfl) (by first | assumption | decide +kernel) (by decide +kernel) ⟨rfl, rfl, rfl, rfl, rfl, by decide +kernel⟩ ?hw ?hc
  case hw => w_witness2
  case hc =>
    refine L2.walk_ofE (l := PySem.Challenge.rw_lockerwall_k67_whole_where_parcels_are) (n := 63) (k := 9) (x := "script") (CX := L2.CX0) rfl (by decide) (by kernel_rfl) ⟨rfl, by decide, by decide⟩ ?F (fun _ _ _ _ z => z)
    intro w mg fa h Y G hmg0
    obtain ⟨K, KX, ⟨c, e⟩, tb, gb, ge⟩ := Y
    have hmg : mg ("law" : PySem.Str) = some (.ref fa) := by
      have e : (HandSHeadRun.topDef (OpenLaw.row PySem.Challenge.rw_lockerwall_k67_whole_where_parcels_are).prog 62).name = ("law" : PySem.Str) := by kernel_rfl
      rw [← e]
      exact hmg0
    obtain ⟨fd, hb, hF⟩ := K67.law_end (P := (PySem.Challenge.rw_lockerwall_k67_whole_where_parcels_are).prog) (w := w) ⟨⟨h, KX, G, c, e⟩, tb, gb, ge⟩ hmg
    exact ⟨K, fd, K67.spLaw K, KX, hb, fun H a ns hl hO hS => ⟨a, ns, rfl, hS, hl, fun _ => rfl⟩, hF⟩

