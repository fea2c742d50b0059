import PyProof.Rows.All
import Wide.All
import OpenK.AllK
import Wide.FinOn
import HandS.ForMost
import HandS.Wide
import HandS.IsInst
import HandS.Defaults
import HandS.Zip
import HandS.Conv
import HandS.More
import HandS.Flow
import HandS.Evl
import HandS.Replace
import HandS.Codes
import HandS.Style
import KE.KRevSl
import HandS.HeadHook1
import HandS.HeadHook2
import HandS.Head2
import HandS.HeadEnd
import PyProof.ListStr
import HandS.Exc
import HandS.ExcInit
import HandS.ExcField
import HandS.ExcIs
import HandS.ExcValue
import HandS.ExcOwn
import HandS.Lambda
import HandS.EndTab
import HandS.HeadWalk
import HandS.HeadHook4
import HandS.TryOnly
import KE.KExcIs
import PyProof.ReprRoads
import HandS.RaiseMore
import HandS.TupAny
import PySem.Challenge.RW_twofarplayers_k06_losses_words_and_numbe
set_option Elab.async false
set_option linter.all false
set_option maxRecDepth 100000
set_option maxHeartbeats 2000000
/-! rules of my own, and short words, for the laws of Twofarplayers -/
namespace Tf
open PySem PySem.Spec PyProof.Rows L2

/-! ### more rules -/
section
variable {X : Cx}
/-- ** of a great base -/
def CPowW (i j : Int) : Prop := 0 ≤ j ∧ (Builtin.Int.intBits i : Int) * j ≤ 2 ^ 27
theorem op_powW : OpR X (binaryOp .Pow) (rI CPowW fun i j => .int (i ^ j.toNat)) := opI fun _ _ _ _ _ _ _ hc q => pow_int hc.1 hc.2 q
def rMulS : R2 := fun x y H Q => ∃ z n, x = .str z ∧ y = .int n ∧ MulOk z n ∧ Q (.str (Txt.mul z n)) H
theorem op_mul_str : OpR X (binaryOp .Mult) rMulS := by
  intro pins s σ H x y v u Q I rx ry h
  obtain ⟨z, n, rfl, rfl, ok, q⟩ := h
  obtain ⟨t, rfl⟩ := rx
  obtain ⟨t', rfl⟩ := ry
  exact SB.mul ok fun t' k => ⟨.str _, H, I.tok _, ⟨_, rfl⟩, q⟩
/-- the signs of a text, a list -/
def signsV (z : Str) : List V := z.cps.toList.map fun c => V.str ⟨#[c]⟩
theorem vals_signs {z : Str} {acc : Array Value} (h : ItemsOf (SignAt z) acc z.cps.size) : Vals (signsV z) acc.toList := by
  have key : ∀ (cs : List Nat) (us : List Value), us.length = cs.length → (∀ (j : Nat) (v : Value), us[j]? = some v → ∃ c u, cs[j]? = some c ∧ v = .str ⟨#[c]⟩ u) → Vals (cs.map fun c => V.str ⟨#[c]⟩) us := by
    intro cs
    induction cs with
    | nil =>
      intro us hl _
      cases us with
      | nil => exact .nil
      | cons _ _ => cases hl
    | cons c cs ih =>
      intro us hl hv
      cases us with
      | nil => cases hl
      | cons u us =>
        obtain ⟨c', t, e1, e2⟩ := hv 0 u rfl
        have e3 : c = c' := Option.some.inj e1
        subst e3
        exact .cons ⟨t, e2⟩ (ih us (Nat.succ.inj hl) fun j v e => hv (j + 1) v e)
  refine key z.cps.toList acc.toList (by simpa using h.1) fun j v e => ?_
  obtain ⟨c, u, e1, e2⟩ := h.2 j v (by simpa using e)
  exact ⟨c, u, by simpa using e1, e2⟩
def rListStr : List V → Hp → VK → Prop := fun xs H Q => ∃ z, xs = [.str z] ∧ z.length ≤ sizeLine ∧ ∀ l, H l = none → Q (.ref l) (upd H l (.lst (signsV z)))
theorem call_list_txt (hc : X.calm = true) : CallR X (.type "list") rListStr := by
  intro pins s σ H xs us Q I r h
  obtain ⟨z, rfl, hz, q⟩ := h
  obtain ⟨u, rfl, t, rfl⟩ := vals1 r
  refine call_list_str (I.ok.hd hc) z t (hn := hz) fun h' tk acc' c' kp e hacc => ?_
  have r' := vals_signs hacc
  have hlen := r'.length
  refine ⟨.ref s.heap.objs.size, _, I.laid (t' := tk) kp (Nat.le_refl _) (show ObjOk X.prog X.w _ h' _ (.lst (signsV z)) from ⟨?_, acc'.toList, c', r', by simpa using e⟩), rfl, q _ (I.hok.fresh (Nat.le_refl _))⟩
  rw [hlen]
  have := hacc.1
  simp only [Array.length_toList]
  rw [this]
  exact hz
end
/-! ### calls by keywords alone -/
section
variable {X : Cx} {CX : CXT} {k n : Nat} {f : Addr} {fd : FuncData} {ps ks : List Str} {sp : Sp} {E : XK} {x : Str} {p pos : Pos} {kws : List Keyword} {tk : TA} {g : List Value → List Value → List Value} {gV : List V → List V → List V}
theorem pe_callN0 (F : FnOk X.prog X.w X.K X.mg X.base CX k f fd ps sp) (hr : Room k X.A) (hg : Gl X x) (hm : X.mg x = some (.ref f)) (hk : PySem.W.keepIn X.K (.ref f) = true) (hb : KBn X.K fd ps 0 ks g gV) (hx : Passes CX X E)
    (hkw : PK X kws tk) (hall : (backToKw pos (keywordEach kws X.env)).all (·.1.isSome) = true := by rfl) (hks : (backToKw pos (keywordEach kws X.env)).filterMap (·.1) = ks := by rfl)
    (hdb : (x == ("__debug__" : Str)) = false := by decide)
    (hpl : ((backTo pos (starEach [] X.env)).any (·.1) || (backToKw pos (keywordEach kws X.env)).any (·.1.isNone)) = false := by rfl) :
    PE X (.Call (.Name x p) [] kws pos) (tCallN 0 ks.length sp gV E tNil tk) := by
  refine ⟨fun pins s σ H Q I h => ?_⟩
  refine wpAny_Call_Name_kw (ld_glob I hg hm ?_ hdb)
  refine PySem.W.callWith_KW0 (h₀ := X.base) I.ok.mod.kin hk hall ?_ hpl
  refine thn (hkw.run pos pins s σ H _ I h) fun ws s2 ⟨zs, H2, I2, rz, l1, l2, q2⟩ => ⟨I2.kIn, ?_⟩
  rw [hks]
  exact run_fnN F hr hb hx I2 (us := []) (vs := []) .nil rz rfl l2 q2
end
section
variable {K : PySem.W.Frag} {x qual : Str} {params : Arguments} {body : List Stmt} {scope : Scope} {f : Addr} {fd : FuncData} {ps : List Str}
theorem kbN (F : FunD K x qual params body scope [] [] f fd) (n : Nat) (ks : List Str) (g : {α : Type} → List α → List α → List α)
    (hrel : ∀ {vs zs : List V} {us ws : List Value}, Vals vs us → Vals zs ws → Vals (g vs zs) (g us ws))
    (h : ∀ (kV doc pm : Value) (an : Option Addr) (cdv ct : Value) (us ws : List Value), us.length = n → ws.length = ks.length → bindArgs (PySem.W.fnOf x qual params body scope .none kV doc pm an cdv ct) ⟨us, ks.zip ws⟩ = pure (ps.zip (g us ws))) :
    KBn K fd ps n ks (fun us ws => g us ws) (fun vs zs => g vs zs) := by
  obtain ⟨oc, od, dV, kV, doc, pm, an, cdv, ct, osl, rfl, lk, hcd, hD, hK⟩ := F.ex
  rcases hD with ⟨_, rfl⟩ | ⟨e, _⟩
  · exact ⟨fun s us ws X l1 l2 => .of_eq (h kV doc pm an cdv ct us ws l1 l2), fun r1 r2 => hrel r1 r2⟩
  · exact absurd rfl e
end

/-! ### a def that is there, and its promise -/
abbrev FnP (K : PySem.W.Frag) (x : Str) (st : Stmt) (f : Addr) (fd : FuncData) : Prop := FunD K x x (defArgs st) (defBody st) (defScope st) [] [] f fd
/-- where the def stands, how it is bound, and what it promises -/
structure Ok (P : Program) (w : World) (K : PySem.W.Frag) (mg : Str → Option Value) (base : Heap) (CX : CXT) (k : Nat) (x : Str) (st : Stmt) (ps : List Str) (sp : Sp) : Prop where
  ex : ∃ f fd, mg x = some (.ref f) ∧ FnP K x st f fd ∧ Binds K fd ps [] ∧ FnOk P w K mg base CX k f fd ps sp
section
variable {X : Cx} {CX : CXT} {k j n : Nat} {st : Stmt} {ps ks : List Str} {sp : Sp} {E : XK} {x : Str} {p pos : Pos} {e : Expr} {es : List Expr} {kws : List Keyword} {t tk : TA} {g : {α : Type} → List α → List α → List α}
theorem pe_cl (F : Ok X.prog X.w X.K X.mg X.base CX k x st ps sp) (hr : Room j X.A) (hg : Gl X x) (hx : Passes CX X E) (ha : PA X (e :: es) t) (hj : k ≤ j := by decide)
    (hdb : (x == ("__debug__" : Str)) = false := by decide) (he : starEach (e :: es) X.env = (false, eval e X.env) :: starEach es X.env := by rfl) (hpl : ((backTo pos (starEach (e :: es) X.env)).any (·.1) || (backToKw pos (keywordEach [] X.env)).any (·.1.isNone)) = false := by rfl) :
    PE X (.Call (.Name x p) (e :: es) [] pos) (tCall sp [] E t) := by
  obtain ⟨f, fd, g, D, b, F⟩ := F.ex
  exact pe_call F (hr.mono hj) hg g D.kp b .nil hx ha hdb he (by
    have h : ((backTo pos (starEach (e :: es) X.env)).any (·.1)) = false := (Bool.or_eq_false_iff.mp hpl).1
    rw [he] at h
    unfold backTo at h ⊢
    simpa using h)
theorem pe_clK0 (F : Ok X.prog X.w X.K X.mg X.base CX k x st ps sp) (hr : Room j X.A) (hg : Gl X x) (hx : Passes CX X E) (hb : ∀ f fd, FnP X.K x st f fd → KBn X.K fd ps 0 ks (fun us ws => g us ws) (fun us ws => g us ws)) (hkw : PK X kws tk) (hj : k ≤ j := by decide)
    (hall : (backToKw pos (keywordEach kws X.env)).all (·.1.isSome) = true := by rfl) (hks : (backToKw pos (keywordEach kws X.env)).filterMap (·.1) = ks := by rfl)
    (hdb : (x == ("__debug__" : Str)) = false := by decide)
    (hpl : ((backTo pos (starEach [] X.env)).any (·.1) || (backToKw pos (keywordEach kws X.env)).any (·.1.isNone)) = false := by rfl) :
    PE X (.Call (.Name x p) [] kws pos) (tCallN 0 ks.length sp (fun us ws => g us ws) E tNil tk) := by
  obtain ⟨f, fd, gg, D, b, F⟩ := F.ex
  exact pe_callN0 F (hr.mono hj) hg gg D.kp (hb f fd D) hx hkw hall hks hdb hpl
theorem pe_clK (F : Ok X.prog X.w X.K X.mg X.base CX k x st ps sp) (hr : Room j X.A) (hg : Gl X x) (hx : Passes CX X E) (hb : ∀ f fd, FnP X.K x st f fd → KBn X.K fd ps n ks (fun us ws => g us ws) (fun us ws => g us ws)) (ha : PA X (e :: es) t) (hkw : PK X kws tk) (hj : k ≤ j := by decide)
    (hall : (backToKw pos (keywordEach kws X.env)).all (·.1.isSome) = true := by rfl) (hks : (backToKw pos (keywordEach kws X.env)).filterMap (·.1) = ks := by rfl)
    (hdb : (x == ("__debug__" : Str)) = false := by decide) (he : starEach (e :: es) X.env = (false, eval e X.env) :: starEach es X.env := by rfl)
    (hpl : ((backTo pos (starEach (e :: es) X.env)).any (·.1) || (backToKw pos (keywordEach kws X.env)).any (·.1.isNone)) = false := by rfl) :
    PE X (.Call (.Name x p) (e :: es) kws pos) (tCallN n ks.length sp (fun us ws => g us ws) E t tk) := by
  obtain ⟨f, fd, gg, D, b, F⟩ := F.ex
  exact pe_callN F (hr.mono hj) hg gg D.kp (hb f fd D) hx ha hkw hall hks hdb he hpl
end
section
variable {X : Cx} {x : Str} {pos : Pos}
theorem pe_gint {i : Int} (hg : Gl X x) (h : ∃ t, X.mg x = some (.int i t)) (hd : (x == ("__debug__" : Str)) = false := by decide) : PE X (.Name x pos) (tC (.int i)) := by
  obtain ⟨t, h⟩ := h
  exact pe_glob hg h ⟨_, rfl⟩ hd
theorem pe_gstr {z : Str} (hg : Gl X x) (h : ∃ t, X.mg x = some (.str z t)) (hd : (x == ("__debug__" : Str)) = false := by decide) : PE X (.Name x pos) (tC (.str z)) := by
  obtain ⟨t, h⟩ := h
  exact pe_glob hg h ⟨_, rfl⟩ hd
theorem pe_sindex {o e : Expr} {to te : TE} {apos : Pos} (ho : PE X o to) (he : PE X e te) (hs : starEach [e] X.env = [(false, eval e X.env)] := by rfl) (hbase : attributeBase o "index" X.env (eval o X.env) = eval o X.env := by rfl) (hline : (apos.endLine == pos.line) = true := by rfl) :
    PE X (.Call (.Attribute o "index" apos) [e] [] pos) (tM1 (fun x xs H Q => ∃ a b i rest, x = .str a ∧ xs = [.str b] ∧ Builtin.Str.occurrences a b 0 a.length 1 = i :: rest ∧ Q (.int (i : Nat)) H) to te) :=
  pe_m1 F.slot_str_index F.type_str_index mt_sindex ho he hs hbase hline
end

/-! ### texts by their codes -/
def S (l : List Nat) : Str := ⟨l.toArray⟩
theorem S_len (l : List Nat) : (S l).length = l.length := by unfold S Str.length; simp
theorem S_codes (l : List Nat) : (S l).cps.toList = l := by unfold S; simp
theorem S_app (a b : List Nat) : S a ++ S b = S (a ++ b) := by
  show (⟨_⟩ : Str) = ⟨_⟩
  simp [S]
theorem S_inj {a b : List Nat} (h : S a = S b) : a = b := by
  have e := congrArg (fun z : Str => z.cps.toList) h
  simpa [S] using e
theorem S_iff {a b : List Nat} : (V.str (S a) = V.str (S b)) ↔ a = b := ⟨fun h => S_inj (V.str.inj h), fun h => by rw [h]⟩
theorem S_of (z : Str) : z = S z.cps.toList := by cases z; simp [S]
theorem signs_S (l : List Nat) : signsV (S l) = l.map fun c => V.str (S [c]) := by unfold signsV; rw [S_codes]; rfl
theorem cut_S (l : List Nat) (lo hi : Option Int) : cutS (S l) lo hi = S ((l.drop (HT.sIx l.length 0 lo)).take (HT.sIx l.length l.length hi - HT.sIx l.length 0 lo)) := by
  unfold cutS
  rw [S_codes, S_len] <;> rfl
theorem sIx_le {n : Nat} {d : Nat} {i : Nat} (h : i ≤ n) : HT.sIx n d (some (i : Int)) = i := by
  rw [HT.sIx_nat]; omega
theorem cut_to {l : List Nat} {n : Nat} (h : n ≤ l.length) : cutS (S l) none (some (n : Int)) = S (l.take n) := by
  rw [cut_S, sIx_le h, HT.sIx_none]
  simp
theorem cut_from {l : List Nat} {n : Nat} (h : n ≤ l.length) : cutS (S l) (some (n : Int)) none = S (l.drop n) := by
  rw [cut_S, sIx_le h, HT.sIx_none]
  congr 1
  rw [List.take_of_length_le]
  rw [List.length_drop]
  omega
theorem fold_app (x : List Nat) : ∀ (n : Nat) (acc : Array Nat), (List.replicate n x.toArray).foldl (· ++ ·) acc = acc ++ ((List.replicate n x).flatten).toArray := by
  intro n
  induction n with
  | zero => intro acc; simp
  | succ n ih => intro acc; rw [List.replicate_succ, List.foldl_cons, ih, List.replicate_succ, List.flatten_cons]; simp [Array.append_assoc]
theorem mul_S (l : List Nat) (n : Nat) : Txt.mul (S l) (n : Int) = S ((List.replicate n l).flatten) := by
  unfold Txt.mul
  split
  · rename_i h
    have : n = 0 := by omega
    subst this
    rfl
  · split
    · rename_i h1 h2
      rw [Bool.or_eq_true] at h2
      rcases h2 with h2 | h2
      · have e : (n : Int) = 1 := by simpa using h2
        have : n = 1 := by omega
        subst this
        simp
      · have e : l.length = 0 := by rw [S_len] at h2; simpa using h2
        have : l = [] := List.eq_nil_of_length_eq_zero e
        subst this
        congr 1
        simp
    · show (⟨_⟩ : Str) = ⟨_⟩
      congr 1
      show ((List.replicate (n : Int).toNat l.toArray).foldl (· ++ ·) #[]) = _
      rw [Int.toNat_natCast, fold_app]
      simp
theorem mulok_S {l : List Nat} {n : Nat} (h : l.length * n ≤ 1000000) (hn : n ≤ 1000000) : MulOk (S l) (n : Int) := by
  refine ⟨by simp; omega, fun h1 h2 => ?_, fun h1 h2 => ?_⟩
  · rw [S_len]
    have h3 : (1 : Int) ≤ (n : Int) := by omega
    rw [Bool.or_eq_false_iff] at h2
    have h4 : l.length ≠ 0 := by
      have := h2.2
      rw [S_len] at this
      simpa using this
    have h5 : l.length ≤ 1000000 := by
      have : l.length * 1 ≤ l.length * n := Nat.mul_le_mul_left _ (by omega)
      omega
    have h6 : (2 ^ 63 - 1) / 1000000 ≤ ((2 ^ 63 - 1 : Int)) / (n : Int) := by
      have h7 : (0 : Int) < (n : Int) := by omega
      rw [Int.le_ediv_iff_mul_le h7]
      have h8 : (n : Int) ≤ 1000000 := by omega
      have h9 : ((2 ^ 63 - 1 : Int) / 1000000) * (n : Int) ≤ ((2 ^ 63 - 1 : Int) / 1000000) * 1000000 := Int.mul_le_mul_of_nonneg_left h8 (by decide)
      have h10 : ((2 ^ 63 - 1 : Int) / 1000000) * 1000000 ≤ 2 ^ 63 - 1 := by decide
      omega
    have h7 : (1000000 : Int) ≤ (2 ^ 63 - 1) / 1000000 := by decide
    omega
  · rw [S_len, Int.toNat_natCast]
    have h0 : sizeLine = 16777216 := by decide
    unfold PySem.Builtin.Str.tooLong
    simp
    omega
theorem joinL_nil : ∀ ys : List (List Nat), TL.joinL [] ys = ys.flatten
  | [] => rfl
  | [x] => by simp [TL.joinL]
  | x :: y :: r => by simp [TL.joinL, joinL_nil (y :: r)]
theorem join_S (ys : List (List Nat)) : Txt.join (S []) (ys.map S) = S ys.flatten := by
  have h : Txt.join (SX.S []) (ys.map SX.S) = SX.S (TL.joinL [] ys) := SX.join_S [] ys
  rw [joinL_nil] at h
  exact h
theorem pe_strS {X : Cx} {x : Str} {j pos} (l : List Nat) (h : x = S l) : PE X (.Constant (.str x) j pos) (tC (.str (S l))) := by
  subst h
  exact pe_str
theorem pe_gstrS {X : Cx} {x z : Str} {pos : Pos} (l : List Nat) (h : z = S l) (hg : Gl X x) (hm : ∃ t, X.mg x = some (.str z t)) (hd : (x == ("__debug__" : Str)) = false := by decide) : PE X (.Name x pos) (tC (.str (S l))) := by
  subst h
  exact pe_gstr hg hm hd
/-! ### the rules with named readings -/
def rIsT : R2 := fun x y H Q => ∃ a b, x = .ty a ∧ y = .ty b ∧ Q (.bl (decide (a = b))) H
def rNoT : R2 := fun x y H Q => ∃ a b, x = .ty a ∧ y = .ty b ∧ Q (.bl (!decide (a = b))) H
def rIN : R2 := fun x y H Q => y = .non ∧ Q (.bl (decide (x = .non))) H
def rNN : R2 := fun x y H Q => y = .non ∧ Q (.bl (!decide (x = .non))) H
def rInC : R2 := fun x y H Q => ∃ (c : Nat) (z : Str), x = .str ⟨#[c]⟩ ∧ y = .str z ∧ Q (.bl (decide (c ∈ z.cps.toList))) H
def rNinC : R2 := fun x y H Q => ∃ (c : Nat) (z : Str), x = .str ⟨#[c]⟩ ∧ y = .str z ∧ Q (.bl (!decide (c ∈ z.cps.toList))) H
def rAddS : R2 := fun x y H Q => ∃ i j, x = .str i ∧ y = .str j ∧ i.length + j.length ≤ sizeLine ∧ Q (.str (i ++ j)) H
def rLtS : R2 := fun x y H Q => ∃ i j, x = .str i ∧ y = .str j ∧ Q (.bl (decide (i.cps.toList < j.cps.toList))) H
abbrev RL := List V → Hp → VK → Prop
def rLnS : RL := fun xs H Q => ∃ z, xs = [.str z] ∧ z.length ≤ sizeLine ∧ Q (.int z.length) H
def rLnQ (K : PySem.W.Frag) : RL := fun xs H Q => ∃ p ys, xs = [.ref p] ∧ (SqL K H p ys ∨ SqT K H p ys) ∧ Q (.int ys.length) H
def rInt : RL := fun xs H Q => (∃ i, xs = [.int i] ∧ Q (.int i) H) ∨ ∃ k, xs = [.bl k] ∧ Q (.int (if k then 1 else 0)) H
def rAbs : RL := fun xs H Q => ∃ i, xs = [.int i] ∧ Q (.int (if i < 0 then -i else i)) H
def rMax2 : RL := fun xs H Q => ∃ i j, xs = [.int i, .int j] ∧ Q (.int (if j > i then j else i)) H
def rMin2 : RL := fun xs H Q => ∃ i j, xs = [.int i, .int j] ∧ Q (.int (if j < i then j else i)) H
def rListOf (K : PySem.W.Frag) : RL := fun xs H Q => ∃ p ys, xs = [.ref p] ∧ (SqL K H p ys ∨ SqT K H p ys) ∧ ∀ l, H l = none → Q (.ref l) (upd H l (.lst ys))
abbrev RM := V → List V → Hp → VK → Prop
def rJoin (K : PySem.W.Frag) : RM := fun x xs H Q => ∃ a p, ∃ ys : List Str, x = .str a ∧ xs = [.ref p] ∧ (SqL K H p (ys.map V.str) ∨ SqT K H p (ys.map V.str)) ∧ (ys.map (·.length)).sum + ys.length * a.length ≤ 16777216 ∧ Q (.str (Txt.join a ys)) H
def rSIx : RM := fun x xs H Q => ∃ a b i rest, x = .str a ∧ xs = [.str b] ∧ Builtin.Str.occurrences a b 0 a.length 1 = i :: rest ∧ Q (.int (i : Nat)) H
section
variable {X : Cx}
theorem o_isT : OpR X (compareOp .Is) rIsT := op_isTyB
theorem o_noT : OpR X (compareOp .IsNot) rNoT := op_notTyB
theorem o_isN : OpR X (compareOp .Is) rIN := op_isN
theorem o_notN : OpR X (compareOp .IsNot) rNN := op_notN
theorem o_inC : OpR X (compareOp .In) rInC := op_in_sign
theorem o_ninC : OpR X (compareOp .NotIn) rNinC := op_notIn_sign
theorem o_addS : OpR X (binaryOp .Add) rAddS := op_add_str
theorem o_ltS : OpR X (compareOp .Lt) rLtS := op_lt_str
theorem k_lnS : CallR X (.builtin "len") rLnS := call_len_str
theorem k_lnQ : CallR X (.builtin "len") (rLnQ X.K) := call_len_seq
theorem k_int : CallR X (.type "int") rInt := call_int1
theorem k_abs : CallR X (.builtin "abs") rAbs := call_abs
theorem k_max2 (hc : X.calm = true) : CallR X (.builtin "max") rMax2 := call_max2 hc
theorem k_min2 (hc : X.calm = true) : CallR X (.builtin "min") rMin2 := call_min2 hc
theorem k_listOf : CallR X (.type "list") (rListOf X.K) := call_list_of
theorem pe_jn {o e : Expr} {to te : TE} {apos pos : Pos} (ho : PE X o to) (he : PE X e te) (hs : starEach [e] X.env = [(false, eval e X.env)] := by rfl) (hbase : attributeBase o "join" X.env (eval o X.env) = eval o X.env := by rfl) (hline : (apos.endLine == pos.line) = true := by rfl) :
    PE X (.Call (.Attribute o "join" apos) [e] [] pos) (tM1 (rJoin X.K) to te) := pe_join ho he hs hbase hline
theorem pe_sx {o e : Expr} {to te : TE} {apos pos : Pos} (ho : PE X o to) (he : PE X e te) (hs : starEach [e] X.env = [(false, eval e X.env)] := by rfl) (hbase : attributeBase o "index" X.env (eval o X.env) = eval o X.env := by rfl) (hline : (apos.endLine == pos.line) = true := by rfl) :
    PE X (.Call (.Attribute o "index" apos) [e] [] pos) (tM1 rSIx to te) := pe_sindex ho he hs hbase hline
end
/-! ### readings -/
section
variable {σ : L2.St} {H : Hp} {Q : VK} {QT : Bool → Hp → Prop} {QA : List V → Hp → Prop} {D : Ends} {ta tb tc te : TE} {t u : TS} {tt tu : TT} {tA tr : TA} {g : TG} {r r' : R2} {v x y : V} {i j : Nat} {K : PySem.W.Frag}
theorem r_seq (h : t { D with nx := u D } σ H) : tSeq t u D σ H := h
theorem r_asg (h : te σ H fun x H1 => g x σ H1 D.nx) : tAsg te g D σ H := h
theorem r_name {Q : L2.St → Hp → Prop} (h : Q (σ.set i (some v)) H) : gName i v σ H Q := h
theorem r_ret (h : te σ H D.rt) : tRet te D σ H := h
theorem r_drop (h : te σ H fun _ H1 => D.nx σ H1) : tDrop te D σ H := h
theorem r_next (h : D.nx σ H) : tNext D σ H := h
theorem r_ifS (h : tt σ H fun b H1 => if b = true then t D σ H1 else u D σ H1) : tIfS tt t u D σ H := h
theorem r_op (h : ta σ H fun x H1 => tb σ H1 fun y H2 => r x y H2 Q) : tOp r ta tb σ H Q := h
theorem r_un {r : V → Hp → VK → Prop} (h : ta σ H fun x H1 => r x H1 Q) : tUn r ta σ H Q := h
theorem r_var (h : σ[i]? = some (some v)) (q : Q v H) : tVar i σ H Q := ⟨v, h, q⟩
theorem r_c (q : Q v H) : tC v σ H Q := q
theorem r_I0 {f : Int → Int → V} {a b : Int} (q : Q (f a b) H) : rI0 f (.int a) (.int b) H Q := ⟨a, b, rfl, rfl, q⟩
theorem r_I {C : Int → Int → Prop} {f : Int → Int → V} {a b : Int} (c : C a b) (q : Q (f a b) H) : rI C f (.int a) (.int b) H Q := ⟨a, b, rfl, rfl, c, q⟩
theorem r_U {f : Int → V} {a : Int} (q : Q (f a) H) : rU f (.int a) H Q := ⟨a, rfl, q⟩
theorem r_eq (s : scal x y = true) (q : Q (.bl (decide (x = y))) H) : rEq x y H Q := ⟨s, q⟩
theorem r_ne (s : scal x y = true) (q : Q (.bl (!decide (x = y))) H) : rNe x y H Q := ⟨s, q⟩
theorem r_cb {r : List V → Hp → VK → Prop} (h : tA σ H fun vs H1 => r vs H1 Q) : tCB r tA σ H Q := h
theorem r_cons (h : ta σ H fun x H1 => tr σ H1 fun xs H2 => QA (x :: xs) H2) : tCons ta tr σ H QA := h
theorem r_nil (h : QA [] H) : tNil σ H QA := h
theorem r_call {sp : Sp} {E : XK} (h : tA σ H fun vs H1 => sp (vs ++ []) H1 Q E) : tCall sp [] E tA σ H Q := h
theorem r_callN {n m : Nat} {sp : Sp} {E : XK} {gV : List V → List V → List V} {tk : TA} (h : tA σ H fun vs H1 => tk σ H1 fun zs H2 => vs.length = n ∧ zs.length = m ∧ sp (gV vs zs) H2 Q E) : tCallN n m sp gV E tA tk σ H Q := h
theorem r_test (h : ta σ H fun x H' => ∃ k, x = .bl k ∧ QT k H') : tTest ta σ H QT := h
theorem r_B (h : ta σ H fun x H' => ∃ k, x = .bl k ∧ QT k H') : tB ta σ H QT := h
theorem r_k {P : Bool → Prop} {b : Bool} (h : P b) : ∃ k, V.bl b = .bl k ∧ P k := ⟨b, rfl, h⟩
theorem r_and (h : tt σ H fun c H1 => if c = true then tu σ H1 QT else QT false H1) : tAnd tt tu σ H QT := h
theorem r_or (h : tt σ H fun c H1 => if c = true then QT true H1 else tu σ H1 QT) : tOr tt tu σ H QT := h
theorem r_not (h : tt σ H fun c H1 => QT (!c) H1) : tNot tt σ H QT := h
theorem r_andV (h : ta σ H fun x H1 => ∃ c, x = .bl c ∧ if c = true then tb σ H1 Q else Q (.bl false) H1) : tAndV ta tb σ H Q := h
theorem r_orV (h : ta σ H fun x H1 => ∃ c, x = .bl c ∧ if c = true then Q (.bl true) H1 else tb σ H1 Q) : tOrV ta tb σ H Q := h
theorem r_notV (h : ta σ H fun x H1 => ∃ c, x = .bl c ∧ Q (.bl (!c)) H1) : tNotV ta σ H Q := h
theorem r_if (h : tt σ H fun c H1 => if c = true then ta σ H1 Q else tb σ H1 Q) : tIf tt ta tb σ H Q := h
theorem r_chain (h : ta σ H fun x H1 => tb σ H1 fun y H2 => r x y H2 fun z H3 => ∃ k, z = .bl k ∧ (if k = true then tc σ H3 fun w' H4 => r' y w' H4 Q else Q (.bl false) H3)) : tChain r r' ta tb tc σ H Q := h
theorem r_tup (h : tA σ H fun xs H1 => xs.length ≤ sizeLine ∧ ∀ p, H1 p = none → Q (.ref p) (upd H1 p (.tup xs))) : tTup tA σ H Q := h
theorem r_lst (h : tA σ H fun xs H1 => xs.length ≤ sizeLine ∧ ∀ p, H1 p = none → Q (.ref p) (upd H1 p (.lst xs))) : tLst tA σ H Q := h
theorem r_par (h : tA σ H fun vs H1 => ∃ v w, vs = [v, w] ∧ D.nx ((σ.set i (some v)).set j (some w)) H1) : tPar i j tA D σ H := h
theorem r_sl {rs : V → Option Int → Option Int → Hp → VK → Prop} {tl th : TO} (h : te σ H fun x H1 => tl σ H1 fun l H2 => th σ H2 fun u H3 => rs x l u H3 Q) : tSl rs te tl th σ H Q := h
theorem r_nopart {Q : Option Int → Hp → Prop} (h : Q none H) : tNoPart σ H Q := h
theorem r_part {Q : Option Int → Hp → Prop} (h : te σ H fun x H1 => ∃ i, x = .int i ∧ Q (some i) H1) : tPart te σ H Q := h
theorem r_i {P : Int → Prop} {a : Int} (h : P a) : ∃ i, V.int a = .int i ∧ P i := ⟨a, rfl, h⟩
theorem r_int {a : Int} (h : Q (.int a) H) : rInt [.int a] H Q := .inl ⟨a, rfl, h⟩
theorem r_intb {b : Bool} (h : Q (.int (if b then 1 else 0)) H) : rInt [.bl b] H Q := .inr ⟨b, rfl, h⟩
theorem r_abs {a : Int} (h : Q (.int (if a < 0 then -a else a)) H) : rAbs [.int a] H Q := ⟨a, rfl, h⟩
theorem r_max2 {a b : Int} (h : Q (.int (if b > a then b else a)) H) : rMax2 [.int a, .int b] H Q := ⟨a, b, rfl, h⟩
theorem r_min2 {a b : Int} (h : Q (.int (if b < a then b else a)) H) : rMin2 [.int a, .int b] H Q := ⟨a, b, rfl, h⟩
theorem r_lnS {z : Str} (hz : z.length ≤ sizeLine) (h : Q (.int z.length) H) : rLnS [.str z] H Q := ⟨z, rfl, hz, h⟩
theorem r_lnT {l : List Nat} (hz : l.length ≤ 1000000) (h : Q (.int l.length) H) : rLnS [.str (S l)] H Q := ⟨_, rfl, by rw [S_len]; exact Nat.le_trans hz (by decide), by rw [S_len]; exact h⟩
theorem r_lnL {p : Addr} {ys : List V} (hs : SqL K H p ys) (h : Q (.int ys.length) H) : rLnQ K [.ref p] H Q := ⟨p, ys, rfl, .inl hs, h⟩
theorem r_lnU {p : Addr} {ys : List V} (hs : SqT K H p ys) (h : Q (.int ys.length) H) : rLnQ K [.ref p] H Q := ⟨p, ys, rfl, .inr hs, h⟩
theorem r_listL {p : Addr} {ys : List V} (hs : SqL K H p ys) (h : ∀ l, H l = none → Q (.ref l) (upd H l (.lst ys))) : rListOf K [.ref p] H Q := ⟨p, ys, rfl, .inl hs, h⟩
theorem r_listS {l : List Nat} (hz : l.length ≤ 1000000) (h : ∀ p, H p = none → Q (.ref p) (upd H p (.lst (l.map fun c => V.str (S [c]))))) : rListStr [.str (S l)] H Q := ⟨_, rfl, by rw [S_len]; exact Nat.le_trans hz (by decide), by rw [signs_S]; exact h⟩
theorem r_isT {a b : String} (q : Q (.bl (decide (a = b))) H) : rIsT (.ty a) (.ty b) H Q := ⟨a, b, rfl, rfl, q⟩
theorem r_noT {a b : String} (q : Q (.bl (!decide (a = b))) H) : rNoT (.ty a) (.ty b) H Q := ⟨a, b, rfl, rfl, q⟩
theorem r_isN (q : Q (.bl (decide (x = .non))) H) : rIN x .non H Q := ⟨rfl, q⟩
theorem r_notN (q : Q (.bl (!decide (x = .non))) H) : rNN x .non H Q := ⟨rfl, q⟩
theorem r_inC {c : Nat} {l : List Nat} (q : Q (.bl (decide (c ∈ l))) H) : rInC (.str (S [c])) (.str (S l)) H Q := ⟨c, _, rfl, rfl, by rw [S_codes]; exact q⟩
theorem r_addS {a b : List Nat} (hz : a.length + b.length ≤ 1000000) (q : Q (.str (S (a ++ b))) H) : rAddS (.str (S a)) (.str (S b)) H Q := ⟨_, _, rfl, rfl, by rw [S_len, S_len]; exact Nat.le_trans hz (by decide), by rw [S_app]; exact q⟩
theorem r_mulS {a : List Nat} {n : Nat} (hz : a.length * n ≤ 1000000) (hn : n ≤ 1000000) (q : Q (.str (S (List.replicate n a).flatten)) H) : rMulS (.str (S a)) (.int (n : Int)) H Q := ⟨_, _, rfl, rfl, mulok_S hz hn, by rw [mul_S]; exact q⟩
theorem r_join {p : Addr} {ys : List (List Nat)} (hs : SqL K H p (ys.map fun l => V.str (S l))) (hz : ys.flatten.length ≤ 1000000) (q : Q (.str (S ys.flatten)) H) : rJoin K (.str (S [])) [.ref p] H Q :=
  ⟨_, p, ys.map S, rfl, rfl, .inl (by rw [List.map_map]; exact hs), by
    rw [List.map_map, S_len]
    have e : ((fun z : Str => z.length) ∘ S) = fun l : List Nat => l.length := funext fun l => S_len l
    rw [show ((·.length) ∘ S : List Nat → Nat) = fun l : List Nat => l.length from e]
    rw [List.length_flatten] at hz
    simp only [List.length_nil, Nat.mul_zero, Nat.add_zero]
    exact Nat.le_trans hz (by decide), by rw [join_S]; exact q⟩
theorem r_isi {T t : String} {b : Bool} (hx : TyX K H x (.type t)) (hk : kitB t T = some b) (q : Q (.bl b) H) : rIsi K [x, .ty T] H Q := ⟨x, .ty T, .type t, .type T, b, rfl, .ty T, hx, kit_ty hk, q⟩
def isiS (x : V) (T : String) : Option Bool := match x with
  | .int _ => kitB "int" T
  | .str _ => kitB "str" T
  | .bl _ => kitB "bool" T
  | .non => kitB "NoneType" T
  | _ => none
theorem r_isiS {T : String} {b : Bool} (h : isiS x T = some b) (q : Q (.bl b) H) : rIsi K [x, .ty T] H Q := by
  cases x with
  | int i => exact r_isi (.base (.int i)) h q
  | str i => exact r_isi (.base (.str i)) h q
  | bl i => exact r_isi (.base (.bl i)) h q
  | non => exact r_isi (.base .non) h q
  | _ => cases h
theorem r_isiT {T : String} {a : Addr} {xs : List V} {b : Bool} (h : SqT K H a xs) (hk : kitB "tuple" T = some b) (q : Q (.bl b) H) : rIsi K [.ref a, .ty T] H Q := by
  rcases h with h | ⟨o, its, n, h1, h2, _⟩
  · rcases h with h | ⟨o, h⟩
    · exact r_isi (.base (.tup h)) hk q
    · exact r_isi (.fTuple h) hk q
  · exact r_isi (.kTuple h1 h2) hk q
theorem r_typ {T : String} (h : TyB K H x T) (q : Q (.ty T) H) : rTyp K [x] H Q := ⟨x, T, rfl, h, q⟩
theorem r_for {wi : TI} {tb : TS} (h : wi σ H fun J H1 => ∃ W : Nat → Nat → L2.St → Hp → Prop, (∃ m, W 0 m σ H1) ∧ ∀ i m σ H, W i m σ H →
  (J.stop i H ∧ D.nx σ H) ∨ (J.go i H ∧ ∃ N : L2.St → Hp → Prop, (∀ σ' H', N σ' H' → ∃ m', m' < m ∧ W (i + 1) m' σ' H') ∧ ∀ x H', J.yld i H x H' → g x σ H' fun σ2 H2 => tb { D with nx := N, ct := N, bk := D.nx } σ2 H2)) : tFor wi g tb D σ H := h
theorem r_iStr {R : It → Hp → Prop} (h : te σ H fun v H1 => ∃ x, v = .str x ∧ R (Its x) H1) : iStr te σ H R := h
theorem r_iList {R : It → Hp → Prop} (h : te σ H fun x H1 => ∃ a, x = .ref a ∧ (∃ xs, SqL K H1 a xs) ∧ R (Itl K a) H1) : iList K te σ H R := h
theorem r_iTup {R : It → Hp → Prop} (h : te σ H fun x H1 => ∃ a, x = .ref a ∧ (∃ xs, SqT K H1 a xs) ∧ R (Itt K a) H1) : iTup K te σ H R := h
theorem r_tM1 {r : V → List V → Hp → VK → Prop} (h : ta σ H fun x H1 => (∃ a, x = .str a) ∧ te σ H1 fun y H2 => r x [y] H2 Q) : tM1 r ta te σ H Q := h
theorem r_lc {wi : TI} {vs : List Nat} (h : wi σ H fun J H1 => ∀ D, H1 D = none → ∃ W : Nat → Nat → Hp → Prop, (∃ m, W 0 m (upd H1 D (.lst []))) ∧ ∀ i m H, W i m H →
  (J.stop i H ∧ Q (.ref D) H) ∨ (J.go i H ∧ ∃ Nx : Hp → Prop, (∀ H', Nx H' → ∃ m', m' < m ∧ W (i + 1) m' H') ∧ ∀ x H', J.yld i H x H' → g x (wipe σ vs) H' fun σ2 H2 => wipe σ2 vs = wipe σ vs ∧ tt σ2 H2 fun b H3 =>
    if b = true then te σ2 H3 fun y H4 => ∃ acc, H4 D = some (.lst acc) ∧ acc.length < sizeLine ∧ Nx (upd H4 D (.lst (acc ++ [y]))) else Nx H3)) : tLc wi g tt te vs σ H Q := h
theorem r_yes (h : QT true H) : tYes σ H QT := h
theorem r_ixL {p : Addr} {xs : List V} {a : Int} (hS : SqL K H p xs) (ha : atI xs a = some v) (q : Q v H) : rIxL K (.ref p) (.int a) H Q := ⟨p, xs, a, v, rfl, rfl, hS, ha, q⟩
theorem r_ixT {p : Addr} {xs : List V} {a : Int} (hS : SqT K H p xs) (ha : atI xs a = some v) (q : Q v H) : rIxT K (.ref p) (.int a) H Q := ⟨p, xs, a, v, rfl, rfl, hS, ha, q⟩
theorem r_true {A B : Prop} (h : A) : if true = true then A else B := by rw [if_pos rfl]; exact h
theorem r_false {A B : Prop} (h : B) : if false = true then A else B := by rw [if_neg Bool.false_ne_true]; exact h
theorem r_dec {c A B : Prop} [Decidable c] (h1 : c → A) (h2 : ¬ c → B) : if decide c = true then A else B := by
  by_cases h : c
  · rw [decide_eq_true h]; exact r_true (h1 h)
  · rw [decide_eq_false h]; exact r_false (h2 h)
theorem r_ndec {c A B : Prop} [Decidable c] (h1 : ¬ c → A) (h2 : c → B) : if (!decide c) = true then A else B := by
  by_cases h : c
  · rw [decide_eq_true h]; exact r_false (h2 h)
  · rw [decide_eq_false h]; exact r_true (h1 h)
theorem r_ndecI {a b : V} {A B : Prop} (h1 : ¬ a = b → A) (h2 : a = b → B) : if (!decide (a = b)) = true then A else B := r_ndec h1 h2
end
/-! ### heaps: all but one object -/
def But (a : Addr) (H H' : Hp) : Prop := ∀ b o, b ≠ a → H b = some o → H' b = some o
section
variable {a p : Addr} {H H' H1 H2 : Hp} {o : HO}
theorem But.refl : But a H H := fun _ _ _ h => h
theorem But.trans (e : But a H H1) (f : But a H1 H2) : But a H H2 := fun b o n h => f b o n (e b o n h)
theorem But.of (e : Same H H') : But a H H' := fun b o _ h => e b o h
theorem But.new (e : But a H H1) (h : H1 p = none) : But a H (upd H1 p o) := fun b u n q => by
  have q' := e b u n q
  rw [upd_ne (ne_of_none q' h)]
  exact q'
theorem But.put (e : But a H H1) : But a H (upd H1 a o) := fun b u n q => by
  rw [upd_ne n]
  exact e b u n q
theorem But.mut (e : But a H H1) (h : H p = none) : But a H (upd H1 p o) := fun b u n q => by
  rw [upd_ne (ne_of_none q h)]
  exact e b u n q
theorem same_new (h : H p = none) : Same H (upd H p o) := fun b u q => by
  rw [upd_ne (ne_of_none q h)]
  exact q
theorem Same.mut (e : Same H H1) (h : H p = none) : Same H (upd H1 p o) := fun b u q => by
  rw [upd_ne (ne_of_none q h)]
  exact e b u q
theorem But.free (e : But a H H1) {l : Addr} (n : l ≠ a) (h : H1 l = none) : H l = none := by
  cases q : H l with
  | none => rfl
  | some o => rw [e l o n q] at h; cases h
theorem But.rd (e : But a H H1) {b : Addr} {u : HO} (n : b ≠ a) (h : Rd H b u) : Rd H1 b u := by
  rcases h with h | ⟨o, h⟩
  · exact .inl (e _ _ n h)
  · exact .inr ⟨o, e _ _ n h⟩
theorem But.sql {K : PySem.W.Frag} (e : But a H H1) {b : Addr} {xs : List V} (n : b ≠ a) (h : SqL K H b xs) : SqL K H1 b xs := by
  rcases h with h | h
  · exact .inl (e.rd n h)
  · exact .inr h
theorem But.sqt {K : PySem.W.Frag} (e : But a H H1) {b : Addr} {xs : List V} (n : b ≠ a) (h : SqT K H b xs) : SqT K H1 b xs := by
  rcases h with h | h
  · exact .inl (e.rd n h)
  · exact .inr h
theorem Same.sqt {K : PySem.W.Frag} (e : Same H H1) {b : Addr} {xs : List V} (h : SqT K H b xs) : SqT K H1 b xs := by
  rcases h with (h | ⟨o, h⟩) | h
  · exact .inl (.inl (e _ _ h))
  · exact .inl (.inr ⟨o, e _ _ h⟩)
  · exact .inr h
theorem fresh_ne (h : H p = none) (e : H a = some o) : p ≠ a := (ne_of_none e h).symm
end
/-! ### the pot: draws -/
def PotAt (H : Hp) (a : Addr) (c : Int) : Prop := ∃ own sd n : Int, H a = some (.lst [.int own, .int sd, .int n]) ∧ 0 ≤ own ∧ own.natAbs < 2 ^ 1000 ∧ 0 ≤ sd ∧ sd < 2305843009213693951 ∧ 0 ≤ n ∧ n ≤ c
theorem PotAt.mono {H : Hp} {a : Addr} {c d : Int} (h : PotAt H a c) (l : c ≤ d) : PotAt H a d := by
  obtain ⟨own, sd, n, h1, h2, h3, h4, h5, h6, h7⟩ := h
  exact ⟨own, sd, n, h1, h2, h3, h4, h5, h6, by omega⟩
theorem PotAt.new {H : Hp} {a p : Addr} {c : Int} {o : HO} (h : PotAt H a c) (n : H p = none) : PotAt (upd H p o) a c := by
  obtain ⟨own, sd, k, h1, h2⟩ := h
  exact ⟨own, sd, k, by rw [upd_ne (ne_of_none h1 n)]; exact h1, h2⟩
theorem PotAt.ne {H : Hp} {a p : Addr} {c : Int} (h : PotAt H a c) (n : p ≠ a) {o : HO} : PotAt (upd H p o) a c := by
  obtain ⟨own, sd, k, h1, h2⟩ := h
  exact ⟨own, sd, k, by rw [upd_ne n.symm]; exact h1, h2⟩
theorem PotAt.fresh {H : Hp} {a p : Addr} {c : Int} (h : PotAt H a c) (n : H p = none) : p ≠ a := by
  obtain ⟨own, sd, k, h1, h2⟩ := h
  exact fresh_ne n h1
theorem PotAt.same {H H' : Hp} {a : Addr} {c : Int} (h : PotAt H a c) (e : Same H H') : PotAt H' a c := by
  obtain ⟨own, sd, k, h1, h2⟩ := h
  exact ⟨own, sd, k, e _ _ h1, h2⟩

/-! ### the fates: n 110, f 102, s 115 -/
def Wd (l : List Nat) : Prop := ∀ c ∈ l, c = 110 ∨ c = 102 ∨ c = 115
theorem Wd.nil : Wd [] := fun _ h => nomatch h
theorem Wd.app {a b : List Nat} (h : Wd a) (h' : Wd b) : Wd (a ++ b) := fun c hc => (List.mem_append.mp hc).elim (h c) (h' c)
theorem Wd.take {a : List Nat} (h : Wd a) (n : Nat) : Wd (a.take n) := fun c hc => h c (List.mem_of_mem_take hc)
theorem Wd.drop {a : List Nat} (h : Wd a) (n : Nat) : Wd (a.drop n) := fun c hc => h c (List.mem_of_mem_drop hc)
theorem Wd.get {a : List Nat} (h : Wd a) {i c : Nat} (e : a[i]? = some c) : c = 110 ∨ c = 102 ∨ c = 115 := h c (List.mem_of_getElem? e)
theorem Wd.rep {a : List Nat} (h : Wd a) (n : Nat) : Wd (List.replicate n a).flatten := fun c hc => by
  obtain ⟨x, h1, h2⟩ := List.mem_flatten.mp hc
  rw [List.eq_of_mem_replicate h1] at h2
  exact h c h2
/-! ### loops over texts -/
theorem for_S {l : List Nat} {g : TG} {tb : TS} {D : Ends} {σ : L2.St} {H : Hp} (Pv : Nat → L2.St → Hp → Prop) (h0 : Pv 0 σ H)
    (hs : ∀ i c σ H, l[i]? = some c → Pv i σ H → g (.str (S [c])) σ H fun σ2 H2 => tb { D with nx := Pv (i + 1), ct := Pv (i + 1), bk := D.nx } σ2 H2) (hd : ∀ σ H, Pv l.length σ H → D.nx σ H) :
    ∃ W : Nat → Nat → L2.St → Hp → Prop, (∃ m, W 0 m σ H) ∧ ∀ i m σ H, W i m σ H →
      ((Its (S l)).stop i H ∧ D.nx σ H) ∨ ((Its (S l)).go i H ∧ ∃ N : L2.St → Hp → Prop, (∀ σ' H', N σ' H' → ∃ m', m' < m ∧ W (i + 1) m' σ' H') ∧ ∀ x H', (Its (S l)).yld i H x H' → g x σ H' fun σ2 H2 => tb { D with nx := N, ct := N, bk := D.nx } σ2 H2) := by
  have sz : (S l).cps.size = l.length := by unfold S; simp
  refine ⟨fun i m σ H => m = l.length - i ∧ i ≤ l.length ∧ Pv i σ H, ⟨l.length, by simp, Nat.zero_le _, h0⟩, ?_⟩
  rintro i m σ H ⟨rfl, hi, p⟩
  by_cases hlt : i < l.length
  · refine .inr ⟨(by show i < (S l).cps.size; rw [sz]; exact hlt), Pv (i + 1), fun σ' H' p' => ⟨l.length - (i + 1), by omega, rfl, hlt, p'⟩, fun x H' y => ?_⟩
    obtain ⟨rfl, c, e, rfl⟩ := y
    exact hs i c σ H' (by simpa [S] using e) p
  · refine .inl ⟨(by show (S l).cps.size ≤ i; rw [sz]; omega), ?_⟩
    have : i = l.length := by omega
    subst this
    exact hd σ H p
theorem lc_S {l : List Nat} {g : TG} {tt : TT} {te : TE} {vs : List Nat} {σ : L2.St} {H1 : Hp} {D : Addr} {Qd : Hp → Prop} (Pv : Nat → Hp → Prop) (h0 : Pv 0 (upd H1 D (.lst [])))
    (hs : ∀ i c H, l[i]? = some c → Pv i H → g (.str (S [c])) (wipe σ vs) H fun σ2 H2 => wipe σ2 vs = wipe σ vs ∧ tt σ2 H2 fun b H3 =>
      if b = true then te σ2 H3 fun y H4 => ∃ acc, H4 D = some (.lst acc) ∧ acc.length < sizeLine ∧ Pv (i + 1) (upd H4 D (.lst (acc ++ [y]))) else Pv (i + 1) H3) (hd : ∀ H, Pv l.length H → Qd H) :
    ∃ W : Nat → Nat → Hp → Prop, (∃ m, W 0 m (upd H1 D (.lst []))) ∧ ∀ i m H, W i m H →
      ((Its (S l)).stop i H ∧ Qd H) ∨ ((Its (S l)).go i H ∧ ∃ Nx : Hp → Prop, (∀ H', Nx H' → ∃ m', m' < m ∧ W (i + 1) m' H') ∧ ∀ x H', (Its (S l)).yld i H x H' → g x (wipe σ vs) H' fun σ2 H2 => wipe σ2 vs = wipe σ vs ∧ tt σ2 H2 fun b H3 =>
        if b = true then te σ2 H3 fun y H4 => ∃ acc, H4 D = some (.lst acc) ∧ acc.length < sizeLine ∧ Nx (upd H4 D (.lst (acc ++ [y]))) else Nx H3) := by
  have sz : (S l).cps.size = l.length := by unfold S; simp
  refine ⟨fun i m H => m = l.length - i ∧ i ≤ l.length ∧ Pv i H, ⟨l.length, by simp, Nat.zero_le _, h0⟩, ?_⟩
  rintro i m H ⟨rfl, hi, p⟩
  by_cases hlt : i < l.length
  · refine .inr ⟨(by show i < (S l).cps.size; rw [sz]; exact hlt), Pv (i + 1), fun H' p' => ⟨l.length - (i + 1), by omega, rfl, hlt, p'⟩, fun x H' y => ?_⟩
    obtain ⟨rfl, c, e, rfl⟩ := y
    exact hs i c H' (by simpa [S] using e) p
  · refine .inl ⟨(by show (S l).cps.size ≤ i; rw [sz]; omega), ?_⟩
    have : i = l.length := by omega
    subst this
    exact hd H p
section
theorem r_yesD {c A B : Prop} [Decidable c] (h : c) (q : A) : if decide c = true then A else B := by rw [decide_eq_true h]; exact r_true q
theorem r_noD {c A B : Prop} [Decidable c] (h : ¬ c) (q : B) : if decide c = true then A else B := by rw [decide_eq_false h]; exact r_false q
theorem r_nt {A B : Prop} (h : B) : if (!true) = true then A else B := r_false h
theorem r_nf {A B : Prop} (h : A) : if (!false) = true then A else B := r_true h
theorem r_nyesD {c A B : Prop} [Decidable c] (h : c) (q : B) : if (!decide c) = true then A else B := by rw [decide_eq_true h]; exact r_false q
theorem r_nnoD {c A B : Prop} [Decidable c] (h : ¬ c) (q : A) : if (!decide c) = true then A else B := by rw [decide_eq_false h]; exact r_true q
theorem r_allT {K : PySem.W.Frag} {H : Hp} {Q : VK} {D : Addr} {n : Nat} (h : H D = some (.lst (List.replicate n (.bl true)))) (q : Q (.bl true) H) : rAll K [.ref D] H Q := by
  refine ⟨D, List.replicate n true, rfl, SqL.of ?_, ?_⟩
  · rw [h, List.map_replicate]
  · have e : (List.replicate n true).all id = true := by simp
    rw [e]
    exact q
theorem rep_len (n : Nat) : (List.replicate n (V.bl true)).length = n := List.length_replicate
theorem rep_succ (n : Nat) : List.replicate n (V.bl true) ++ [V.bl true] = List.replicate (n + 1) (V.bl true) := by
  rw [List.replicate_succ']
theorem le_line {n : Nat} (h : n ≤ 1000000) : n ≤ sizeLine := Nat.le_trans h (by decide)
theorem lt_line {n : Nat} (h : n ≤ 1000000) : n < sizeLine := Nat.lt_of_le_of_lt h (by decide)
/-- a comprehension over a text, every item True -/
theorem lcS_true {l : List Nat} {g : TG} {te : TE} {vs : List Nat} {σ : L2.St} {H1 : Hp} {D : Addr} {Qd : Hp → Prop} (hD : H1 D = none) (hl : l.length ≤ 1000000)
    (hs : ∀ (i c : Nat) (H : Hp), l[i]? = some c → Same H1 H → ∀ R : V → Hp → Prop, (∀ H', Same H H' → R (.bl true) H') → g (.str (S [c])) (wipe σ vs) H fun σ2 H2 => wipe σ2 vs = wipe σ vs ∧ te σ2 H2 R)
    (hd : ∀ H, Same H1 H → H D = some (.lst (List.replicate l.length (.bl true))) → Qd H) :
    ∃ W : Nat → Nat → Hp → Prop, (∃ m, W 0 m (upd H1 D (.lst []))) ∧ ∀ i m H, W i m H →
      ((Its (S l)).stop i H ∧ Qd H) ∨ ((Its (S l)).go i H ∧ ∃ Nx : Hp → Prop, (∀ H', Nx H' → ∃ m', m' < m ∧ W (i + 1) m' H') ∧ ∀ x H', (Its (S l)).yld i H x H' → g x (wipe σ vs) H' fun σ2 H2 => wipe σ2 vs = wipe σ vs ∧ tYes σ2 H2 fun b H3 =>
        if b = true then te σ2 H3 fun y H4 => ∃ acc, H4 D = some (.lst acc) ∧ acc.length < sizeLine ∧ Nx (upd H4 D (.lst (acc ++ [y]))) else Nx H3) := by
  refine lc_S (fun i H => Same H1 H ∧ H D = some (.lst (List.replicate i (.bl true)))) ⟨same_new hD, upd_same⟩ (fun i c H e p => ?_) fun H p => hd H p.1 p.2
  have hi : i < l.length := (List.getElem?_eq_some_iff.mp e).1
  exact hs i c H e p.1 _ fun H' e' => ⟨_, e' _ _ p.2, by rw [rep_len]; exact lt_line (by omega), Same.mut (p.1.trans e') hD, by rw [upd_same, rep_succ]⟩
end

/-! ### cuts, stores -/
section
variable {σ : L2.St} {H : Hp} {Q : VK} {D : Ends} {te : TE} {ts : TS} {K : PySem.W.Frag}
theorem r_cut (P : V → Hp → Prop) (fin : ∀ x H1, P x H1 → Q x H1) (main : ∀ R : VK, (∀ x H1, P x H1 → R x H1) → te σ H R) : te σ H Q := main Q fin
theorem s_cut (P : L2.St → Hp → Prop) (fin : ∀ σ' H', P σ' H' → D.nx σ' H') (main : ∀ N : L2.St → Hp → Prop, (∀ σ' H', P σ' H' → N σ' H') → ts { D with nx := N } σ H) : ts D σ H := main D.nx fin
theorem t_cut {tt : TT} {QT : Bool → Hp → Prop} (P : Bool → Hp → Prop) (fin : ∀ x H1, P x H1 → QT x H1) (main : ∀ R : Bool → Hp → Prop, (∀ x H1, P x H1 → R x H1) → tt σ H R) : tt σ H QT := main QT fin
theorem r_gSub {to ti : TE} {t : TSet} {v : V} {Q : L2.St → Hp → Prop} (h : to σ H fun o H1 => ti σ H1 fun i H2 => t o i v H2 fun H3 => Q σ H3) : gSub to ti t v σ H Q := h
theorem r_setL {p : Addr} {xs : List V} {k : Int} {j : Nat} {v : V} {Q : Hp → Prop} (h : H p = some (.lst xs)) (hk : ixN xs.length k = some j) (q : Q (upd H p (.lst (xs.set j v)))) : rSetL (.ref p) (.int k) v H Q := ⟨p, xs, k, j, rfl, rfl, h, hk, q⟩
theorem r_lstRg {tr : L2.St → Hp → (Int → Int → Hp → Prop) → Prop} (h : tr σ H fun a b H1 => RgOk a b ∧ ∀ q, H1 q = none → Q (.ref q) (upd H1 q (.lst (rgV a b)))) : tLstRg tr σ H Q := h
theorem r_rg1 {ta : TE} {Q : Int → Int → Hp → Prop} (h : ta σ H fun x H1 => ∃ n, x = .int n ∧ Q 0 n H1) : tRg1 ta σ H Q := h
theorem r_gTup {n : Nat} {t : TGs} {a : Addr} {xs : List V} {Q : L2.St → Hp → Prop} (hs : SqT K H a xs) (hl : xs.length = n) (h : t xs σ H Q) : gTup K n t (.ref a) σ H Q := ⟨a, xs, rfl, hs, hl, h⟩
theorem r_gCons {t : TG} {u : TGs} {v : V} {r : List V} {Q : L2.St → Hp → Prop} (h : t v σ H fun σ' H' => u r σ' H' Q) : gCons t u (v :: r) σ H Q := ⟨v, r, rfl, h⟩
theorem r_gNil {Q : L2.St → Hp → Prop} (h : Q σ H) : gNil [] σ H Q := ⟨rfl, h⟩
theorem r_slL {a : Addr} {xs : List V} {lo hi : Option Int} (hs : SqL K H a xs) (h : ∀ p, H p = none → Q (.ref p) (upd H p (.lst (cutV xs lo hi)))) : rSlL K (.ref a) lo hi H Q := ⟨a, xs, rfl, hs, h⟩
theorem r_slS {l : List Nat} {lo hi : Option Int} (hz : l.length ≤ 1000000) (h : Q (.str (cutS (S l) lo hi)) H) : rSlS (.str (S l)) lo hi H Q := ⟨_, rfl, by rw [S_len]; exact le_line hz, h⟩
theorem r_sum {a : Addr} {ns : List Int} (hs : SqL K H a (ns.map V.int)) (q : Q (.int ns.sum) H) : rSum K [.ref a] H Q := ⟨a, ns, rfl, hs, q⟩
end
/-! ### sizes -/
theorem log2_le {n k : Nat} (h : n < 2 ^ k) (hk : 0 < k) : n.log2 < k := PySem.Flt.log2_lt_of hk h
theorem cmw {i j : Int} (h1 : -(2 ^ 1100) < i) (h2 : i < 2 ^ 1100) (h3 : -(2 ^ 1100) < j) (h4 : j < 2 ^ 1100) : CMulW i j := wide_mul (a := 1100) (b := 1100) (by omega) (by omega) (by decide) (by decide) (by decide)
theorem cms {i j : Int} (h1 : -100000000000000000000 < i) (h2 : i < 100000000000000000000) (h3 : -100000000000000000000 < j) (h4 : j < 100000000000000000000) : CMulW i j := wide_mul (a := 70) (b := 70) (by omega) (by omega) (by decide) (by decide) (by decide)
theorem cdw {i j : Int} (h1 : 0 < j) (h2 : j < 100000000000000000000) : CDivW i j := wide_div (b := 70) h1 (by omega) (by decide) (by decide)
theorem cpw {i : Int} {n : Int} (h1 : 0 ≤ i) (h2 : i < 100000000000000000000) (h3 : 0 ≤ n) (h4 : n ≤ 100000) : CPowW i n := by
  refine ⟨h3, ?_⟩
  have b : Builtin.Int.intBits i ≤ i.natAbs.log2 + 1 := by
    unfold Builtin.Int.intBits
    split <;> omega
  have c : i.natAbs.log2 < 70 := log2_le (by omega) (by decide)
  have d : (Builtin.Int.intBits i : Int) ≤ 70 := by omega
  have e : (Builtin.Int.intBits i : Int) * n ≤ 70 * 100000 := Int.mul_le_mul d h4 h3 (by decide)
  have f : (70 * 100000 : Int) ≤ 2 ^ 27 := by decide
  omega
theorem mulB {x y a b c : Int} (h1 : 0 ≤ x) (h2 : x ≤ a) (h3 : 0 ≤ y) (h4 : y ≤ b) (h5 : a * b ≤ c) : 0 ≤ x * y ∧ x * y ≤ c := by
  refine ⟨Int.mul_nonneg h1 h3, Int.le_trans (Int.mul_le_mul h2 h4 h3 (Int.le_trans h1 h2)) h5⟩
theorem at_mem {xs : List V} {i : Int} (h1 : 0 ≤ i) (h2 : i < xs.length) : ∃ v, atI xs i = some v ∧ v ∈ xs := by
  obtain ⟨j, rfl⟩ := Int.eq_ofNat_of_zero_le h1
  have hj : j < xs.length := by omega
  exact ⟨xs[j], atI_nat (List.getElem?_eq_getElem hj), List.getElem_mem hj⟩
theorem div_sz {x u : Int} {k : Nat} (h1 : 0 ≤ x) (h2 : x.natAbs < 2 ^ k) (h3 : 0 < u) : 0 ≤ x / u ∧ (x / u).natAbs < 2 ^ k := by
  have a : 0 ≤ x / u := Int.ediv_nonneg h1 (Int.le_of_lt h3)
  have b : x / u ≤ x := Int.ediv_le_self _ h1
  exact ⟨a, by omega⟩

/-! ### loops and comprehensions over any walk -/
theorem for_J {J : It} {n : Nat} {g : TG} {tb : TS} {D : Ends} {σ : L2.St} {H : Hp} (Pv : Nat → L2.St → Hp → Prop) (h0 : Pv 0 σ H) (hgo : ∀ i σ H, i < n → Pv i σ H → J.go i H) (hstop : ∀ σ H, Pv n σ H → J.stop n H)
    (hs : ∀ (i : Nat) (x : V) (σ : L2.St) (H H' : Hp), i < n → Pv i σ H → J.yld i H x H' → g x σ H' fun σ2 H2 => tb { D with nx := Pv (i + 1), ct := Pv (i + 1), bk := D.nx } σ2 H2) (hd : ∀ σ H, Pv n σ H → D.nx σ H) :
    ∃ W : Nat → Nat → L2.St → Hp → Prop, (∃ m, W 0 m σ H) ∧ ∀ i m σ H, W i m σ H →
      (J.stop i H ∧ D.nx σ H) ∨ (J.go i H ∧ ∃ N : L2.St → Hp → Prop, (∀ σ' H', N σ' H' → ∃ m', m' < m ∧ W (i + 1) m' σ' H') ∧ ∀ x H', J.yld i H x H' → g x σ H' fun σ2 H2 => tb { D with nx := N, ct := N, bk := D.nx } σ2 H2) := by
  refine ⟨fun i m σ H => m = n - i ∧ i ≤ n ∧ Pv i σ H, ⟨n, by simp, Nat.zero_le _, h0⟩, ?_⟩
  rintro i m σ H ⟨rfl, hi, p⟩
  by_cases hlt : i < n
  · exact .inr ⟨hgo i σ H hlt p, Pv (i + 1), fun σ' H' p' => ⟨n - (i + 1), by omega, rfl, hlt, p'⟩, fun x H' y => hs i x σ H H' hlt p y⟩
  · have : i = n := by omega
    subst this
    exact .inl ⟨hstop σ H p, hd σ H p⟩
theorem lc_J {J : It} {n : Nat} {g : TG} {tt : TT} {te : TE} {vs : List Nat} {σ : L2.St} {H1 : Hp} {D : Addr} {Qd : Hp → Prop} (Pv : Nat → Hp → Prop) (h0 : Pv 0 (upd H1 D (.lst []))) (hgo : ∀ i H, i < n → Pv i H → J.go i H) (hstop : ∀ H, Pv n H → J.stop n H)
    (hs : ∀ (i : Nat) (x : V) (H H' : Hp), i < n → Pv i H → J.yld i H x H' → g x (wipe σ vs) H' fun σ2 H2 => wipe σ2 vs = wipe σ vs ∧ tt σ2 H2 fun b H3 =>
      if b = true then te σ2 H3 fun y H4 => ∃ acc, H4 D = some (.lst acc) ∧ acc.length < sizeLine ∧ Pv (i + 1) (upd H4 D (.lst (acc ++ [y]))) else Pv (i + 1) H3) (hd : ∀ H, Pv n H → Qd H) :
    ∃ W : Nat → Nat → Hp → Prop, (∃ m, W 0 m (upd H1 D (.lst []))) ∧ ∀ i m H, W i m H →
      (J.stop i H ∧ Qd H) ∨ (J.go i H ∧ ∃ Nx : Hp → Prop, (∀ H', Nx H' → ∃ m', m' < m ∧ W (i + 1) m' H') ∧ ∀ x H', J.yld i H x H' → g x (wipe σ vs) H' fun σ2 H2 => wipe σ2 vs = wipe σ vs ∧ tt σ2 H2 fun b H3 =>
        if b = true then te σ2 H3 fun y H4 => ∃ acc, H4 D = some (.lst acc) ∧ acc.length < sizeLine ∧ Nx (upd H4 D (.lst (acc ++ [y]))) else Nx H3) := by
  refine ⟨fun i m H => m = n - i ∧ i ≤ n ∧ Pv i H, ⟨n, by simp, Nat.zero_le _, h0⟩, ?_⟩
  rintro i m H ⟨rfl, hi, p⟩
  by_cases hlt : i < n
  · exact .inr ⟨hgo i H hlt p, Pv (i + 1), fun H' p' => ⟨n - (i + 1), by omega, rfl, hlt, p'⟩, fun x H' y => hs i x H H' hlt p y⟩
  · have : i = n := by omega
    subst this
    exact .inl ⟨hstop H p, hd H p⟩
/-- every turn gives an item: Iv what holds between the turns, Vp of the items -/
theorem lc_acc {J : It} {n : Nat} {g : TG} {te : TE} {vs : List Nat} {σ : L2.St} {H1 : Hp} {D : Addr} {Qd : Hp → Prop} (Iv : Nat → Hp → Prop) (Vp : Nat → V → Prop) (hn : n ≤ 1000000) (h0 : Iv 0 (upd H1 D (.lst [])))
    (stab : ∀ i H acc acc', Iv i H → H D = some (.lst acc) → Iv i (upd H D (.lst acc'))) (hgo : ∀ i H, i < n → Iv i H → J.go i H) (hstop : ∀ H, Iv n H → J.stop n H)
    (hs : ∀ (i : Nat) (x : V) (H H' : Hp) (acc : List V), i < n → Iv i H → H D = some (.lst acc) → J.yld i H x H' → ∀ R : V → Hp → Prop, (∀ v H4, H4 D = some (.lst acc) → Vp i v → Iv (i + 1) H4 → R v H4) →
      g x (wipe σ vs) H' fun σ2 H2 => wipe σ2 vs = wipe σ vs ∧ te σ2 H2 R)
    (hd : ∀ H acc, acc.length = n → (∀ i v, acc[i]? = some v → Vp i v) → H D = some (.lst acc) → Iv n H → Qd H) :
    ∃ W : Nat → Nat → Hp → Prop, (∃ m, W 0 m (upd H1 D (.lst []))) ∧ ∀ i m H, W i m H →
      (J.stop i H ∧ Qd H) ∨ (J.go i H ∧ ∃ Nx : Hp → Prop, (∀ H', Nx H' → ∃ m', m' < m ∧ W (i + 1) m' H') ∧ ∀ x H', J.yld i H x H' → g x (wipe σ vs) H' fun σ2 H2 => wipe σ2 vs = wipe σ vs ∧ tYes σ2 H2 fun b H3 =>
        if b = true then te σ2 H3 fun y H4 => ∃ acc, H4 D = some (.lst acc) ∧ acc.length < sizeLine ∧ Nx (upd H4 D (.lst (acc ++ [y]))) else Nx H3) := by
  refine lc_J (n := n) (fun i H => Iv i H ∧ ∃ acc, acc.length = i ∧ (∀ j v, acc[j]? = some v → Vp j v) ∧ H D = some (.lst acc)) ⟨h0, [], rfl, fun j v e => by simp at e, upd_same⟩ (fun i H hi p => hgo i H hi p.1) (fun H p => hstop H p.1) ?_ ?_
  · rintro i x H H' hi ⟨p, acc, hl, hv, e⟩ y
    refine hs i x H H' acc hi p e y _ fun v H4 e4 vp p4 => ⟨acc, e4, lt_line (by omega), stab _ _ _ _ p4 e4, acc ++ [v], by simp [hl], fun j u ej => ?_, upd_same⟩
    rw [List.getElem?_append] at ej
    split at ej
    · exact hv j u ej
    · have hj : j = i := by
        have := (List.getElem?_eq_some_iff.mp ej).1
        simp at this
        omega
      subst hj
      rw [hl, Nat.sub_self] at ej
      have : v = u := Option.some.inj ej
      exact this ▸ vp
  · rintro H ⟨p, acc, hl, hv, e⟩
    exact hd H acc hl hv e p
theorem all_true {acc : List V} {n : Nat} (hl : acc.length = n) (h : ∀ (i : Nat) v, acc[i]? = some v → v = .bl true) : acc = List.replicate n (.bl true) := by
  rw [← hl]
  exact List.eq_replicate_iff.mpr ⟨rfl, fun b hb => by
    obtain ⟨i, hi, e⟩ := List.getElem_of_mem hb
    exact h i b (by rw [List.getElem?_eq_getElem hi, e])⟩
section
variable {K : PySem.W.Frag} {H : Hp} {Q : VK} {σ : L2.St} {tA : TA}
theorem r_iRng1 {R : It → Hp → Prop} (h : tA σ H fun vs H1 => ∃ j, vs = [.int j] ∧ -(2 ^ 62) ≤ j ∧ j < 2 ^ 62 ∧ R (Itr 0 j.toNat) H1) : iRng1 tA σ H R := h
theorem r_iRng2 {R : It → Hp → Prop} (h : tA σ H fun vs H1 => ∃ i j : Int, vs = [.int i, .int j] ∧ (-(2 ^ 62) ≤ i ∧ i < 2 ^ 62 ∧ -(2 ^ 62) ≤ j ∧ j < 2 ^ 62) ∧ R (Itr i (j - i).toNat) H1) : iRng2 tA σ H R := h
theorem r_iZip {R : It → Hp → Prop} (h : tA σ H fun vs H1 => ∃ a b xs ys, vs = [.ref a, .ref b] ∧ ((SqL K H1 a xs ∧ SqL K H1 b ys ∧ R (Itz K a b) H1) ∨ (SqT K H1 a xs ∧ SqT K H1 b ys ∧ R (RZ.ItzT K a b) H1))) : RZ.iZipA K tA σ H R := h
theorem r_then {ta : TE} {k : V → Hp → VK → Prop} (h : ta σ H fun x H1 => k x H1 Q) : tThen ta k σ H Q := h
end
/-- told and due are the same data, nested so deep; bo: truth values, too -/
def Sc (bo : Bool) (x y : V) : Prop := (∃ i, x = .int i ∧ y = .int i) ∨ (∃ l, x = .str l ∧ y = .str l) ∨ (x = .non ∧ y = .non) ∨ (bo = true ∧ ∃ b, x = .bl b ∧ y = .bl b)
def Eqv (K : PySem.W.Frag) (H : Hp) (bo : Bool) : Nat → V → V → Prop
  | 0, x, y => Sc bo x y
  | n + 1, x, y => Sc bo x y ∨ ∃ a b xs ys, x = .ref a ∧ y = .ref b ∧ SqT K H a xs ∧ SqT K H b ys ∧ xs.length = ys.length ∧ xs.length ≤ 1000000 ∧ ∀ (i : Nat) (x y : V), xs[i]? = some x → ys[i]? = some y → Eqv K H bo n x y
section
variable {K : PySem.W.Frag} {H H' : Hp} {bo : Bool}
theorem Eqv.same (e : Same H H') : ∀ {n : Nat} {x y : V}, Eqv K H bo n x y → Eqv K H' bo n x y
  | 0, _, _, h => h
  | n + 1, x, y, h => by
    rcases h with h | ⟨a, b, xs, ys, h1, h2, h3, h4, h5, h6, h7⟩
    · exact .inl h
    · exact .inr ⟨a, b, xs, ys, h1, h2, Same.sqt e h3, Same.sqt e h4, h5, h6, fun i x y e1 e2 => Eqv.same e (h7 i x y e1 e2)⟩
theorem Eqv.sc {n : Nat} {x y : V} (h : Sc bo x y) : Eqv K H bo n x y := by
  cases n with
  | zero => exact h
  | succ n => exact .inl h
theorem Eqv.int {n : Nat} {i : Int} : Eqv K H bo n (.int i) (.int i) := Eqv.sc (.inl ⟨i, rfl, rfl⟩)
theorem Eqv.str {n : Nat} {l : Str} : Eqv K H bo n (.str l) (.str l) := Eqv.sc (.inr (.inl ⟨l, rfl, rfl⟩))
theorem Eqv.non {n : Nat} : Eqv K H bo n .non .non := Eqv.sc (.inr (.inr (.inl ⟨rfl, rfl⟩)))
theorem Eqv.bl {n : Nat} {b : Bool} : Eqv K H true n (.bl b) (.bl b) := Eqv.sc (.inr (.inr (.inr ⟨rfl, b, rfl, rfl⟩)))
theorem Eqv.tup {n : Nat} {a b : Addr} {xs ys : List V} (h3 : SqT K H a xs) (h4 : SqT K H b ys) (h5 : xs.length = ys.length) (h6 : xs.length ≤ 1000000)
    (h7 : ∀ (i : Nat) (x y : V), xs[i]? = some x → ys[i]? = some y → Eqv K H bo n x y) : Eqv K H bo (n + 1) (.ref a) (.ref b) := .inr ⟨a, b, xs, ys, rfl, rfl, h3, h4, h5, h6, h7⟩
/-- a tuple of which all items are plain, twice -/
theorem Eqv.flat {n : Nat} {a b : Addr} {xs : List V} (h3 : SqT K H a xs) (h4 : SqT K H b xs) (h6 : xs.length ≤ 1000000) (h7 : ∀ x ∈ xs, Sc bo x x) : Eqv K H bo (n + 1) (.ref a) (.ref b) :=
  Eqv.tup h3 h4 rfl h6 fun i x y e1 e2 => by
    have e : x = y := Option.some.inj (e1.symm.trans e2)
    subst e
    exact Eqv.sc (h7 x (List.mem_of_getElem? e1))
end
/-! ### s[::-1] -/
def rRev : V → Hp → VK → Prop := fun x H Q => ∃ z, x = .str z ∧ z.length ≤ sizeLine ∧ Q (.str ⟨z.cps.toList.reverse.toArray⟩) H
def tRevS (te : TE) : TE := fun σ H Q => te σ H fun x H1 => rRev x H1 Q
theorem rev_pick (z : Str) : ((Builtin.Str.strSliceIndices none none (-1) z.length).filterMap (z.cps[·]?)).toArray = z.cps.toList.reverse.toArray := by
  show ((sliceRange ((z.cps.size : Int) - 1) (-1) (-1)).filterMap (z.cps[·]?)).toArray = _
  rw [PySem.W.krv_sliceRange, PySem.W.krv_range, List.filterMap_reverse, PySem.W.krv_all]
theorem pe_revS {X : Cx} {e : Expr} {te : TE} {k : Nat} {p1 p2 p3 pos : Pos} (he : PE X e te) : PE X (.Subscript e (.Slice none none (some (.UnaryOp .USub (.Constant (.int 1) k p1) p2)) p3) pos) (tRevS te) := by
  refine ⟨fun pins s σ H Q I h => ?_⟩
  refine Subscript_ (thn (he.run pins s σ H _ I h) fun v s1 ⟨x, H1, I1, r1, q1⟩ => ?_)
  obtain ⟨z, rfl, hz, q⟩ := q1
  obtain ⟨t, rfl⟩ := r1
  have hst : PO X (some (.UnaryOp .USub (.Constant (.int 1) k p1) p2)) (tPart (tUn (rU fun i => .int (-i)) (tC (.int 1)))) := po_some (pe_un un_neg pe_int)
  refine wpAny_Slice (thn (po_none.run pins s1 σ H1 (fun o H2 => o = none ∧ H2 = H1) I1 ⟨rfl, rfl⟩) fun vl s2 ⟨l, H2, I2, pl, el, e2⟩ => ?_)
  subst el e2
  refine thn (po_none.run pins s2 σ H2 (fun o H3 => o = none ∧ H3 = H2) I2 ⟨rfl, rfl⟩) fun vu s3 ⟨u, H3, I3, pu, eu, e3⟩ => ?_
  subst eu e3
  refine thn (hst.run pins s3 σ H3 (fun o H4 => o = some (-1) ∧ H4 = H3) I3 ⟨1, rfl, -1, rfl, rfl, rfl⟩) fun vs s4 ⟨o, H4, I4, ps, eo, e4⟩ => ?_
  subst eo e4
  have I5 : Inv X pins σ H4 { s4 with heap := s4.heap.push { cls := .type "slice", data := .fields #[vl, vu, vs] } } := I4.kept (t' := s4.toks) fun b ob q => Heap.get?_push_of_some _ q
  obtain ⟨l, rfl, hl⟩ := IsPart.raw pl
  obtain ⟨u, rfl, hu⟩ := IsPart.raw pu
  obtain ⟨st, rfl, hs⟩ := IsPart.raw ps
  have hz2 : (⟨((Builtin.Str.strSliceIndices none none (-1) z.length).filterMap (z.cps[·]?)).toArray⟩ : Str).length ≤ sizeLine := by
    rw [rev_pick]
    show (z.cps.toList.reverse.toArray).size ≤ sizeLine
    rw [List.size_toArray, List.length_reverse, Array.length_toList]
    exact hz
  rw [← rev_pick] at q
  refine tail_any (ops := [.ref s4.heap.objs.size, .str z t]) (typeIs_str _ _ _) (F.slot_str_getitem.lookup) ?_ (by with_unfolding_all rfl)
  refine wpAny_getItem_str_slice (l := l) (u := u) (st := st) ⟨_, Heap.get?_push_size _ rfl, rfl, rfl⟩ (by rw [hs]; decide) ?_
  unfold sliceMade
  rw [hs]
  rw [if_neg (by simp)]
  unfold slicePicked
  rw [hs, hl, hu]
  exact ⟨hz2, .str _, _, I5.tok _, ⟨_, rfl⟩, q⟩
/-! ### the head -/
abbrev AlX : Type := He.AlD × Bool
def obsX (n : Nat) (fa : List He.Fa) (fn : List He.DefD) (ex : PySem.W.Frag → Bool) (g : Addr → Option Obj) : AlX := (He.obsDG n fa fn g, ex (He.frG g (He.asD g n)))
def hookX (n : Nat) (fa : List He.Fa) (fn : List He.DefD) (ex : PySem.W.Frag → Bool) : PySem.W.Hook where
  α := AlX
  obs := fun s => obsX n fa fn ex s.heap.get?
  val := fun _ => (He.valD fn, true)
  says := fun _ h => ∃ K : PySem.W.Frag, K.In h ∧ He.SaysD fa fn K ∧ ex K = true
  of := fun _ _ e => ⟨_, He.frG_in, congrArg (fun z : AlX => z.1) e, congrArg (fun z : AlX => z.2) e⟩
  keeps := fun _ _ _ ⟨K, hK, c⟩ k => ⟨K, PySem.W.Frag.In.keeps hK k, c⟩
theorem obsX_eq {n : Nat} {fa : List He.Fa} {fn : List He.DefD} {ex : PySem.W.Frag → Bool} {g : Addr → Option Obj} {s : Shared} (h : ∀ a, g a = s.heap.get? a) : obsX n fa fn ex g = (hookX n fa fn ex).obs s := by
  have e : g = s.heap.get? := funext h
  rw [e] <;> rfl
theorem Ok.at {P : Program} {w : World} {K : PySem.W.Frag} {mg : Str → Option Value} {base : Heap} {CX : CXT} {k : Nat} {x : Str} {st : Stmt} {ps : List Str} {sp : Sp} (o : Ok P w K mg base CX k x st ps sp) {f : Addr} {fd : FuncData} (g : mg x = some (.ref f)) (D : FnP K x st f fd) :
    FnOk P w K mg base CX k f fd ps sp := by
  obtain ⟨f', fd', g', D', b, F⟩ := o.ex
  rw [g] at g'
  cases g'
  obtain ⟨_, _, _, _, _, _, _, _, _, _, e1, l1, _⟩ := D.ex
  obtain ⟨_, _, _, _, _, _, _, _, _, _, e2, l2, _⟩ := D'.ex
  rw [l1] at l2
  have e : fd = fd' := by
    injection l2 with l2
    injection l2 with _ _ l2
    injection l2
  subst e
  exact F
end Tf

set_option linter.all false
set_option maxRecDepth 100000
set_option maxHeartbeats 2000000
/-! mathematics of words, places, numbers -/
namespace Tf
open PySem L2
/-- where a fate stands behind a place -/
def ix (p : Int) (c : Nat) : Nat := if p % 2 = 0 then (if c = 115 then 0 else if c = 110 then 1 else 2) else (if c = 102 then 0 else if c = 110 then 1 else 2)
def pst (p : Int) (c : Nat) : Int := 3 * p + (ix p c : Nat)
def pl (l : List Nat) : Int := l.foldl pst 0
def nu (p : Int) : Int × Int := if p % 2 = 0 then (p, p + 1) else (p + 1, p)
theorem pl_snoc (l : List Nat) (c : Nat) : pl (l ++ [c]) = pst (pl l) c := by unfold pl; rw [List.foldl_append]; rfl
theorem take_snoc {l : List Nat} {i c : Nat} (e : l[i]? = some c) : l.take (i + 1) = l.take i ++ [c] := by rw [List.take_add_one, e]; rfl
theorem behind_ix (p : Int) {c : Nat} (h : c = 110 ∨ c = 102 ∨ c = 115) : ∃ z : List Nat, atI [V.str (S [115, 110, 102]), V.str (S [102, 110, 115])] (p % 2) = some (.str (S z)) ∧ ∃ rest, Builtin.Str.occurrences (S z) (S [c]) 0 (S z).length 1 = ix p c :: rest := by
  rcases (show p % 2 = 0 ∨ p % 2 = 1 by omega) with e | e
  · refine ⟨[115, 110, 102], by rw [e]; rfl, ?_⟩
    rcases h with rfl | rfl | rfl
    · exact ⟨[], by unfold ix; rw [if_pos e]; decide +kernel⟩
    · exact ⟨[], by unfold ix; rw [if_pos e]; decide +kernel⟩
    · exact ⟨[], by unfold ix; rw [if_pos e]; decide +kernel⟩
  · refine ⟨[102, 110, 115], by rw [e]; rfl, ?_⟩
    have e' : ¬ p % 2 = 0 := by omega
    rcases h with rfl | rfl | rfl
    · exact ⟨[], by unfold ix; rw [if_neg e']; decide +kernel⟩
    · exact ⟨[], by unfold ix; rw [if_neg e']; decide +kernel⟩
    · exact ⟨[], by unfold ix; rw [if_neg e']; decide +kernel⟩
/-- hearing -/
def hst (q : Int × Int) (c : Nat) : Int × Int := (if c = 115 then 3 * q.1 else q.1 + 2 * q.2, if c = 102 then 3 * q.2 else q.2 + 2 * q.1)
theorem hst_nu (p : Int) {c : Nat} (h : c = 110 ∨ c = 102 ∨ c = 115) : hst (nu p) c = nu (pst p c) := by
  unfold hst nu pst ix
  rcases (show p % 2 = 0 ∨ p % 2 = 1 by omega) with e | e
  · rcases h with rfl | rfl | rfl <;> simp [e] <;> split <;> simp <;> omega
  · rcases h with rfl | rfl | rfl <;> simp [e] <;> split <;> simp <;> omega
theorem ix_le (p : Int) (c : Nat) : ix p c ≤ 2 := by unfold ix; split <;> split <;> (try split) <;> omega
theorem pl_nn (l : List Nat) : 0 ≤ pl l := by
  have key : ∀ (l : List Nat) (p : Int), 0 ≤ p → 0 ≤ l.foldl pst p := by
    intro l
    induction l with
    | nil => intro p h; exact h
    | cons c l ih => intro p h; rw [List.foldl_cons]; exact ih _ (by unfold pst; omega)
  exact key l 0 (by decide)
theorem pl_lt (l : List Nat) : pl l < 3 ^ l.length := by
  have key : ∀ (l : List Nat) (p m : Int), p < m → 0 ≤ p → l.foldl pst p < m * 3 ^ l.length := by
    intro l
    induction l with
    | nil => intro p m h _; simpa using h
    | cons c l ih =>
      intro p m h h0
      rw [List.foldl_cons, List.length_cons, Int.pow_succ]
      have h1 := ix_le p c
      have := ih (pst p c) (3 * m) (by unfold pst; omega) (by unfold pst; omega)
      have e : 3 * m * 3 ^ l.length = m * (3 ^ l.length * 3) := by rw [Int.mul_comm (3 ^ l.length) 3, ← Int.mul_assoc, Int.mul_comm m 3]
      rw [← e]
      exact this
  have := key l 0 1 (by decide) (by decide)
  rw [Int.one_mul] at this
  exact this
theorem pow3_pos (n : Nat) : (0 : Int) < 3 ^ n := Int.pow_pos (by decide)
theorem pow3_odd (n : Nat) : (3 : Int) ^ n % 2 = 1 := by
  induction n with
  | zero => rfl
  | succ n ih => rw [Int.pow_succ]; omega
/-- the left end -/
theorem pl_zero (l : List Nat) (h : Wd l) : pl l = 0 ↔ l = List.replicate l.length 115 := by
  have key : ∀ (l : List Nat), Wd l → ∀ p : Int, 0 ≤ p → (l.foldl pst p = 0 ↔ p = 0 ∧ l = List.replicate l.length 115) := by
    intro l
    induction l with
    | nil => intro _ p hp; simp
    | cons c l ih =>
      intro hw p hp
      have hc := hw c List.mem_cons_self
      have hl : Wd l := fun x hx => hw x (List.mem_cons_of_mem _ hx)
      have h0 : 0 ≤ pst p c := by unfold pst; omega
      rw [List.foldl_cons, ih hl _ h0, List.length_cons, List.replicate_succ, List.cons.injEq]
      have : pst p c = 0 ↔ p = 0 ∧ c = 115 := by
        constructor
        · intro e
          have hp0 : p = 0 := by unfold pst at e; omega
          subst hp0
          refine ⟨rfl, ?_⟩
          unfold pst ix at e
          rcases hc with rfl | rfl | rfl
          · exact absurd e (by decide)
          · exact absurd e (by decide)
          · rfl
        · rintro ⟨rfl, rfl⟩
          decide
      rw [this, and_assoc]
  have := key l h 0 (by decide)
  unfold pl
  rw [this]
  simp
/-- the right end -/
theorem pl_top (l : List Nat) (h : Wd l) : pl l = 3 ^ l.length - 1 ↔ l = List.replicate l.length 102 := by
  have key : ∀ (l : List Nat), Wd l → ∀ p m : Int, 0 ≤ p → p ≤ m → m % 2 = 0 → (l.foldl pst p = (m + 1) * 3 ^ l.length - 1 ↔ p = m ∧ l = List.replicate l.length 102) := by
    intro l
    induction l with
    | nil => intro _ p m _ _ _; simp
    | cons c l ih =>
      intro hw p m hp hm he
      have hc := hw c List.mem_cons_self
      have hl : Wd l := fun x hx => hw x (List.mem_cons_of_mem _ hx)
      have h0 : 0 ≤ pst p c := by unfold pst; omega
      have h1 := ix_le p c
      have h2 : pst p c ≤ 3 * m + 2 := by unfold pst; omega
      have e1 : (m + 1) * 3 ^ (l.length + 1) - 1 = (3 * m + 2 + 1) * 3 ^ l.length - 1 := by
        rw [Int.pow_succ, Int.mul_comm (3 ^ l.length) 3, ← Int.mul_assoc, show (m + 1) * 3 = 3 * m + 2 + 1 by omega]
      rw [List.foldl_cons, List.length_cons, e1, ih hl _ (3 * m + 2) h0 h2 (by omega), List.replicate_succ, List.cons.injEq]
      have : pst p c = 3 * m + 2 ↔ p = m ∧ c = 102 := by
        constructor
        · intro e
          have hp0 : p = m := by unfold pst at e; omega
          subst hp0
          refine ⟨rfl, ?_⟩
          unfold pst ix at e
          rw [if_pos he] at e
          rcases hc with rfl | rfl | rfl
          · simp at e
          · rfl
          · simp at e; omega
        · rintro ⟨rfl, rfl⟩
          unfold pst ix
          rw [if_pos he]
          simp
      rw [this, and_assoc]
  have := key l h 0 0 (by decide) (by decide) (by decide)
  unfold pl
  simp only [Int.zero_add, Int.one_mul] at this
  rw [this]
  simp
theorem fate_of {x : V} (h : x ∈ ([110, 102, 115] : List Nat).map fun c => V.str (S [c])) : ∃ c : Nat, x = .str (S [c]) ∧ (c = 110 ∨ c = 102 ∨ c = 115) := by
  simp only [List.map_cons, List.map_nil, List.mem_cons, List.not_mem_nil, or_false] at h
  rcases h with rfl | rfl | rfl
  · exact ⟨110, rfl, by decide⟩
  · exact ⟨102, rfl, by decide⟩
  · exact ⟨115, rfl, by decide⟩
theorem chars_of : ∀ {acc : List V}, (∀ (i : Nat) (v : V), acc[i]? = some v → ∃ c : Nat, v = .str (S [c]) ∧ (c = 110 ∨ c = 102 ∨ c = 115)) → ∃ l : List Nat, acc = l.map (fun c => V.str (S [c])) ∧ Wd l ∧ l.length = acc.length
  | [], _ => ⟨[], rfl, Wd.nil, rfl⟩
  | v :: r, h => by
    obtain ⟨c, rfl, hc⟩ := h 0 v rfl
    obtain ⟨l, e1, e2, e3⟩ := chars_of (acc := r) fun i u e => h (i + 1) u e
    exact ⟨c :: l, by rw [e1]; rfl, fun x hx => by
      rcases List.mem_cons.mp hx with rfl | hx
      · exact hc
      · exact e2 x hx, by rw [List.length_cons, List.length_cons, e3]⟩
theorem flat_one : ∀ l : List Nat, (l.map fun c => [c]).flatten = l
  | [] => rfl
  | c :: l => by rw [List.map_cons, List.flatten_cons, flat_one l]; rfl
theorem r_joinC {K : PySem.W.Frag} {H : Hp} {Q : VK} {p : Addr} {l : List Nat} (hs : SqL K H p (l.map fun c => V.str (S [c]))) (hz : l.length ≤ 1000000) (q : Q (.str (S l)) H) : rJoin K (.str (S [])) [.ref p] H Q :=
  r_join (ys := l.map fun c => [c]) (by rw [List.map_map]; exact hs) (by rw [flat_one]; exact hz) (by rw [flat_one]; exact q)
theorem cut_take (l : List Nat) (n : Nat) : cutS (S l) none (some (n : Int)) = S (l.take n) := by
  by_cases h : n ≤ l.length
  · exact cut_to h
  · rw [cut_S, HT.sIx_nat, HT.sIx_none, List.take_of_length_le (show l.length ≤ n by omega)]
    simp
    congr 1
    exact List.take_of_length_le (by omega)
theorem rep_one (n c : Nat) : (List.replicate n [c]).flatten = List.replicate n c := by
  induction n with
  | zero => rfl
  | succ n ih => rw [List.replicate_succ, List.flatten_cons, ih, List.replicate_succ]; rfl
end Tf

set_option linter.all false
set_option maxRecDepth 100000
set_option maxHeartbeats 2000000
/-! mathematics of losses: endless rows that come again -/
namespace Tf
open PySem L2
/-- the row of head and ring -/
def rw (h r : List Nat) (i : Nat) : Nat := if i < h.length then h.getD i 0 else r.getD ((i - h.length) % r.length) 0
/-- f comes again after p, from m on -/
def Per (f : Nat → Nat) (m p : Nat) : Prop := ∀ i, m ≤ i → f (i + p) = f i
def seg (f : Nat → Nat) (a n : Nat) : List Nat := (List.range n).map fun j => f (a + j)
theorem seg_len (f : Nat → Nat) (a n : Nat) : (seg f a n).length = n := by simp [seg]
theorem seg_get {f : Nat → Nat} {a n i : Nat} (h : i < n) : (seg f a n)[i]? = some (f (a + i)) := by
  unfold seg
  rw [List.getElem?_map, List.getElem?_range h] <;> rfl
theorem seg_getD {f : Nat → Nat} {a n i : Nat} (h : i < n) : (seg f a n).getD i 0 = f (a + i) := by
  rw [List.getD_eq_getElem?_getD, seg_get h] <;> rfl
theorem seg_ext {f g : Nat → Nat} {a b n : Nat} (h : ∀ i, i < n → f (a + i) = g (b + i)) : seg f a n = seg g b n := by
  unfold seg
  exact List.map_congr_left fun i hi => h i (List.mem_range.mp hi)
theorem seg_inj {f g : Nat → Nat} {a b n : Nat} (h : seg f a n = seg g b n) : ∀ i, i < n → f (a + i) = g (b + i) := fun i hi => by
  have e := congrArg (fun l : List Nat => l[i]?) h
  simp only [seg_get hi] at e
  exact Option.some.inj e
theorem seg_take {f : Nat → Nat} {a n m : Nat} (h : m ≤ n) : (seg f a n).take m = seg f a m := by
  apply List.ext_getElem?
  intro i
  by_cases hi : i < m
  · rw [List.getElem?_take_of_lt hi, seg_get (by omega), seg_get hi]
  · rw [List.getElem?_eq_none (by rw [List.length_take, seg_len]; omega), List.getElem?_eq_none (by rw [seg_len]; omega)]
theorem seg_drop {f : Nat → Nat} {a n m : Nat} : (seg f a n).drop m = seg f (a + m) (n - m) := by
  apply List.ext_getElem?
  intro i
  rw [List.getElem?_drop]
  by_cases hi : i < n - m
  · rw [seg_get (by omega), seg_get hi, Nat.add_assoc]
  · rw [List.getElem?_eq_none (by rw [seg_len]; omega), List.getElem?_eq_none (by rw [seg_len]; omega)]
theorem seg_self (l : List Nat) : l = seg (fun i => l.getD i 0) 0 l.length := by
  apply List.ext_getElem?
  intro i
  by_cases hi : i < l.length
  · rw [seg_get hi, Nat.zero_add, List.getD_eq_getElem?_getD, List.getElem?_eq_getElem hi] <;> rfl
  · rw [List.getElem?_eq_none (by omega), List.getElem?_eq_none (by rw [seg_len]; omega)]
theorem seg_app {f : Nat → Nat} {a n m : Nat} : seg f a n ++ seg f (a + n) m = seg f a (n + m) := by
  apply List.ext_getElem?
  intro i
  rw [List.getElem?_append, seg_len]
  split
  · rename_i h
    rw [seg_get h, seg_get (by omega)]
  · rename_i h
    by_cases hi : i < n + m
    · rw [seg_get (by omega), seg_get hi]
      congr 2
      omega
    · rw [List.getElem?_eq_none (by rw [seg_len]; omega), List.getElem?_eq_none (by rw [seg_len]; omega)]

theorem Per.mono {f : Nat → Nat} {m m' p : Nat} (h : Per f m p) (hm : m ≤ m') : Per f m' p := fun i hi => h i (by omega)
theorem Per.mul {f : Nat → Nat} {m p : Nat} (h : Per f m p) : ∀ k, Per f m (p * k)
  | 0 => fun i _ => rfl
  | k + 1 => fun i hi => by
    have e := Per.mul h k (i + p) (by omega)
    rw [Nat.mul_succ, show i + (p * k + p) = i + p + p * k by omega, e]
    exact h i hi
theorem rw_lt {h r : List Nat} {i : Nat} (e : i < h.length) : rw h r i = h.getD i 0 := if_pos e
theorem rw_ge {h r : List Nat} {i : Nat} (e : h.length ≤ i) : rw h r i = r.getD ((i - h.length) % r.length) 0 := if_neg (by omega)
theorem rw_per (h r : List Nat) : Per (rw h r) h.length r.length := fun i hi => by
  rw [rw_ge (by omega), rw_ge hi, show i + r.length - h.length = i - h.length + r.length by omega, Nat.add_mod_right]
/-- a row that comes again is told by its beginning -/
theorem per_rw {f : Nat → Nat} {m p : Nat} (h : Per f m p) (hp : 0 < p) : rw (seg f 0 m) (seg f m p) = f := by
  funext i
  by_cases hi : i < m
  · rw [rw_lt (by rw [seg_len]; exact hi), seg_getD hi, Nat.zero_add]
  · rw [rw_ge (by rw [seg_len]; omega), seg_len, seg_len, seg_getD (Nat.mod_lt _ hp)]
    have e := h.mul ((i - m) / p) (m + (i - m) % p) (by omega)
    rw [← e]
    congr 1
    have := Nat.mod_add_div (i - m) p
    omega
theorem rw_head (h r : List Nat) : seg (rw h r) 0 h.length = h := by
  conv => rhs; rw [seg_self h]
  exact seg_ext fun i hi => by rw [Nat.zero_add]; exact rw_lt hi
theorem rw_ring (h r : List Nat) : seg (rw h r) h.length r.length = r := by
  conv => rhs; rw [seg_self r]
  exact seg_ext fun i hi => by
    rw [rw_ge (by omega), Nat.zero_add, Nat.add_sub_cancel_left, Nat.mod_eq_of_lt hi]
/-- two rows that agree so far agree for ever -/
theorem fine_wilf {f g : Nat → Nat} {m p q : Nat} (hf : Per f m p) (hg : Per g m q) (hp : 0 < p) (hq : 0 < q) (e : ∀ i, i < m + p + q → f i = g i) : f = g := by
  funext i
  induction i using Nat.strongRecOn with
  | _ i ih =>
    by_cases hi : i < m + p + q
    · exact e i hi
    · have f1 : f i = f (i - p) := by
        have := hf (i - p) (by omega)
        rwa [show i - p + p = i by omega] at this
      have g1 : g i = g (i - q) := by
        have := hg (i - q) (by omega)
        rwa [show i - q + q = i by omega] at this
      have f2 : f (i - q) = f (i - q - p) := by
        have := hf (i - q - p) (by omega)
        rwa [show i - q - p + p = i - q by omega] at this
      have g2 : g (i - p) = g (i - p - q) := by
        have := hg (i - p - q) (by omega)
        rwa [show i - p - q + q = i - p by omega] at this
      rw [f1, ih (i - p) (by omega), g2, show i - p - q = i - q - p by omega, ← ih (i - q - p) (by omega), ← f2, ih (i - q) (by omega), ← g1]
/-- the least: the shortest head, then the shortest ring -/
structure IsMin (f : Nat → Nat) (m p : Nat) : Prop where
  pos : 0 < p
  per : Per f m p
  head : ∀ m' p', 0 < p' → Per f m' p' → m ≤ m'
  ring : ∀ p', 0 < p' → Per f m p' → p ≤ p'
theorem IsMin.uniq {f : Nat → Nat} {m p m' p' : Nat} (a : IsMin f m p) (b : IsMin f m' p') : m = m' ∧ p = p' := by
  have e : m = m' := Nat.le_antisymm (a.head _ _ b.pos b.per) (b.head _ _ a.pos a.per)
  subst e
  exact ⟨rfl, Nat.le_antisymm (a.ring _ b.pos b.per) (b.ring _ a.pos a.per)⟩
theorem per_down {f : Nat → Nat} {m m' p q : Nat} (hp : Per f m p) (h0 : 0 < p) (hq : Per f m' q) : Per f m q := fun i hi => by
  have e1 := hp.mul m' i hi
  have e2 := hp.mul m' (i + q) (by omega)
  have : m' ≤ i + p * m' := by
    have : 1 * m' ≤ p * m' := Nat.mul_le_mul_right _ h0
    omega
  have e3 := hq (i + p * m') this
  rw [← e2, ← e1, ← e3]
  congr 1
  omega
theorem IsMin.le {f : Nat → Nat} {m p m' p' : Nat} (a : IsMin f m p) (h0 : 0 < p') (h : Per f m' p') : m ≤ m' ∧ p ≤ p' := ⟨a.head _ _ h0 h, a.ring _ h0 (per_down a.per a.pos h)⟩
theorem least_ex {P : Nat → Prop} (n : Nat) (h : P n) : ∃ m, P m ∧ ∀ k, P k → m ≤ k := by
  induction n using Nat.strongRecOn with
  | _ n ih =>
    by_cases e : ∃ k, k < n ∧ P k
    · obtain ⟨k, hk, pk⟩ := e
      exact ih k hk pk
    · exact ⟨n, h, fun k pk => by
        by_cases hk : k < n
        · exact absurd ⟨k, hk, pk⟩ e
        · omega⟩
/-- of all periods the least one goes into each -/
theorem per_dvd {f : Nat → Nat} {m p q : Nat} (h0 : 0 < p) (hp : Per f m p) (hl : ∀ p', 0 < p' → Per f m p' → p ≤ p') (hq : Per f m q) : p ∣ q := by
  have h : Per f m (q % p) := fun i hi => by
    have e := hp.mul (q / p) (i + q % p) (by omega)
    rw [show i + q % p + p * (q / p) = i + q by have := Nat.mod_add_div q p; omega] at e
    rw [← e]
    exact hq i hi
  by_cases z : q % p = 0
  · exact Nat.dvd_of_mod_eq_zero z
  · have := hl _ (Nat.pos_of_ne_zero z) h
    have := Nat.mod_lt q h0
    omega
/-- the letters of a loss, as the row -/
theorem letters_seg {h r : List Nat} {n k : Nat} (hr : 0 < r.length) (hn : n ≤ h.length + k * r.length) : (h ++ (List.replicate k r).flatten).take n = seg (rw h r) 0 n := by
  have key : ∀ k, h ++ (List.replicate k r).flatten = seg (rw h r) 0 (h.length + k * r.length) := by
    intro k
    induction k with
    | zero =>
      rw [Nat.zero_mul, Nat.add_zero, rw_head]
      simp
    | succ k ih =>
      rw [List.replicate_succ', List.flatten_append, ← List.append_assoc, ih, List.flatten_cons, List.flatten_nil, List.append_nil]
      have e : seg (rw h r) (0 + (h.length + k * r.length)) r.length = r := by
        conv => rhs; rw [← rw_ring h r]
        exact seg_ext fun i hi => by
          rw [show 0 + (h.length + k * r.length) + i = h.length + i + r.length * k by rw [Nat.mul_comm]; omega]
          exact (rw_per h r).mul k _ (by omega)
      rw [Nat.succ_mul, ← Nat.add_assoc]
      conv => lhs; rhs; rw [← e]
      exact seg_app
  rw [key k]
  exact seg_take hn
theorem rep_len_mul (k : Nat) (r : List Nat) : (List.replicate k r).flatten.length = k * r.length := by
  induction k with
  | zero => simp
  | succ k ih => rw [List.replicate_succ, List.flatten_cons, List.length_append, ih, Nat.succ_mul, Nat.add_comm]
theorem per_mod {f : Nat → Nat} {p : Nat} (h : Per f 0 p) (i : Nat) : f i = f (i % p) := by
  have e := h.mul (i / p) (i % p) (Nat.zero_le _)
  rw [Nat.mod_add_div] at e
  exact e
theorem seg_nil (f : Nat → Nat) (a : Nat) : seg f a 0 = [] := rfl
theorem take_seg (r : List Nat) {d : Nat} (h : d ≤ r.length) : r.take d = seg (rw [] r) 0 d := by
  conv => lhs; rw [← rw_ring [] r]
  exact seg_take h
theorem ring_check {r : List Nat} {d : Nat} (h0 : 0 < d) (h1 : d ≤ r.length) : (List.replicate (r.length / d) (r.take d)).flatten = r ↔ (Per (rw [] r) 0 d ∧ d ∣ r.length) := by
  have hl : (r.take d).length = d := by rw [List.length_take]; omega
  have e1 : (List.replicate (r.length / d) (r.take d)).flatten = seg (rw [] (r.take d)) 0 (r.length / d * d) := by
    have := letters_seg (h := []) (r := r.take d) (n := r.length / d * d) (k := r.length / d) (by omega) (by rw [hl]; simp)
    rw [← this, List.nil_append]
    exact (List.take_of_length_le (by rw [rep_len_mul, hl]; exact Nat.le_refl _)).symm
  constructor
  · intro e
    have el := congrArg List.length e
    rw [rep_len_mul, hl] at el
    have dv : d ∣ r.length := ⟨r.length / d, by rw [Nat.mul_comm]; exact el.symm⟩
    refine ⟨?_, dv⟩
    rw [e1, el] at e
    have e2 := e.trans (rw_ring [] r).symm
    have pg : Per (rw [] (r.take d)) 0 d := by
      have := rw_per [] (r.take d)
      rw [hl] at this
      exact this
    have pg2 : Per (rw [] (r.take d)) 0 r.length := by
      have := pg.mul (r.length / d)
      rwa [Nat.mul_comm, el] at this
    have pf : Per (rw [] r) 0 r.length := rw_per [] r
    have ef : rw [] r = rw [] (r.take d) := by
      funext i
      rw [per_mod pf i, per_mod pg2 i]
      have := seg_inj e2 (i % r.length) (Nat.mod_lt _ (by omega))
      simpa using this.symm
    rw [ef]
    exact pg
  · rintro ⟨pf, k, hk⟩
    have ek : r.length / d * d = r.length := by rw [hk, Nat.mul_comm d k, Nat.mul_div_cancel _ h0]
    have ef : rw [] (r.take d) = rw [] r := by
      rw [take_seg r h1]
      have := per_rw pf h0
      rw [seg_nil] at this
      exact this
    rw [e1, ek, ef]
    exact rw_ring [] r
/-- from the head on only the ring tells -/
theorem per_tail {h r : List Nat} {q : Nat} : Per (rw h r) h.length q ↔ Per (rw [] r) 0 q := by
  have key : ∀ i, rw h r (h.length + i) = rw [] r i := fun i => by
    rw [rw_ge (by omega), rw_ge (Nat.zero_le i), Nat.add_sub_cancel_left]
    rfl
  constructor
  · intro p i _
    have := p (h.length + i) (by omega)
    rwa [Nat.add_assoc, key, key] at this
  · intro p i hi
    obtain ⟨j, rfl⟩ : ∃ j, i = h.length + j := ⟨i - h.length, by omega⟩
    rw [Nat.add_assoc, key, key]
    exact p j (Nat.zero_le _)
/-- head and ring while the head is made shorter -/
structure LInv (f : Nat → Nat) (a b : List Nat) : Prop where
  row : rw a b = f
  pos : 0 < b.length
  least : ∀ p', 0 < p' → Per f a.length p' → b.length ≤ p'
theorem short_pos {r : List Nat} {p : Nat} (hr : 0 < r.length) (m : IsMin (rw [] r) 0 p) : p ≤ r.length := m.ring _ hr (rw_per [] r)
theorem linv_start {h r : List Nat} {p : Nat} (hr : 0 < r.length) (m : IsMin (rw [] r) 0 p) : LInv (rw h r) h (r.take p) := by
  have hp := short_pos hr m
  have hl : (r.take p).length = p := by rw [List.length_take]; omega
  have ef : rw [] (r.take p) = rw [] r := by
    rw [take_seg r hp]
    have := per_rw m.per m.pos
    rw [seg_nil] at this
    exact this
  refine ⟨?_, by rw [hl]; exact m.pos, fun p' h0 hq => by rw [hl]; exact m.ring p' h0 (per_tail.mp hq)⟩
  funext i
  by_cases hi : i < h.length
  · rw [rw_lt hi, rw_lt hi]
  · have e := congrFun ef (i - h.length)
    rw [rw_ge (Nat.zero_le _), rw_ge (Nat.zero_le _)] at e
    rw [rw_ge (by omega), rw_ge (by omega)]
    exact e
theorem linv_step {f : Nat → Nat} {a b : List Nat} {c : Nat} (v : LInv f (a ++ [c]) (b ++ [c])) : LInv f a (c :: b) := by
  have e1 := rw_head (a ++ [c]) (b ++ [c])
  have e2 := rw_ring (a ++ [c]) (b ++ [c])
  have pf := rw_per (a ++ [c]) (b ++ [c])
  rw [v.row] at e1 e2 pf
  have la : (a ++ [c]).length = a.length + 1 := by simp
  have lb : (b ++ [c]).length = b.length + 1 := by simp
  rw [la] at e1 e2 pf
  rw [lb] at e2 pf
  have fa : f a.length = c := by
    have := congrArg (fun l : List Nat => l[a.length]?) e1
    simp only [seg_get (show a.length < a.length + 1 by omega), Nat.zero_add] at this
    rw [List.getElem?_append_right (Nat.le_refl _)] at this
    simpa using this
  have fb : f (a.length + 1 + b.length) = c := by
    have := congrArg (fun l : List Nat => l[b.length]?) e2
    simp only [seg_get (show b.length < b.length + 1 by omega)] at this
    rw [List.getElem?_append_right (Nat.le_refl _)] at this
    simpa using this
  have pf2 : Per f a.length (b.length + 1) := fun i hi => by
    by_cases h : i = a.length
    · subst h
      rw [show a.length + (b.length + 1) = a.length + 1 + b.length by omega, fb, fa]
    · exact pf i (by omega)
  have s1 : seg f 0 a.length = a := by
    have := congrArg (fun l : List Nat => l.take a.length) e1
    simp only [seg_take (show a.length ≤ a.length + 1 by omega)] at this
    simpa using this
  have s2 : seg f a.length (b.length + 1) = c :: b := by
    have h1 : seg f a.length 1 ++ seg f (a.length + 1) b.length = seg f a.length (1 + b.length) := seg_app
    rw [Nat.add_comm b.length 1, ← h1]
    have h2 : seg f a.length 1 = [c] := by simp [seg, fa]
    have h3 := congrArg (fun l : List Nat => l.take b.length) e2
    simp only [seg_take (show b.length ≤ b.length + 1 by omega)] at h3
    rw [h2, h3]
    simp
  have row := per_rw pf2 (by omega)
  rw [s1, s2] at row
  refine ⟨row, by simp, fun p' h0 hq => ?_⟩
  have := v.least p' h0 (hq.mono (by simp))
  simpa using this
theorem linv_end {f : Nat → Nat} {a b : List Nat} (v : LInv f a b) (h : a = [] ∨ ∃ a' b' x y, a = a' ++ [x] ∧ b = b' ++ [y] ∧ x ≠ y) : IsMin f a.length b.length := by
  have pf := rw_per a b
  rw [v.row] at pf
  refine ⟨v.pos, pf, fun m' p' h0 hq => ?_, v.least⟩
  rcases h with rfl | ⟨a', b', x, y, rfl, rfl, ne⟩
  · exact Nat.zero_le _
  · refine Nat.le_of_not_lt fun hlt => ne ?_
    have la : (a' ++ [x]).length = a'.length + 1 := by simp
    have lb : (b' ++ [y]).length = b'.length + 1 := by simp
    have e1 := rw_head (a' ++ [x]) (b' ++ [y])
    have e2 := rw_ring (a' ++ [x]) (b' ++ [y])
    have dv := per_dvd (q := p') v.pos pf v.least (hq.mono (by omega))
    rw [v.row] at e1 e2
    rw [la] at e1 e2 pf hlt
    rw [lb] at e2 pf dv
    have fa : f a'.length = x := by
      have := congrArg (fun l : List Nat => l[a'.length]?) e1
      simp only [seg_get (show a'.length < a'.length + 1 by omega), Nat.zero_add] at this
      rw [List.getElem?_append_right (Nat.le_refl _)] at this
      simpa using this
    have fb : f (a'.length + 1 + b'.length) = y := by
      have := congrArg (fun l : List Nat => l[b'.length]?) e2
      simp only [seg_get (show b'.length < b'.length + 1 by omega)] at this
      rw [List.getElem?_append_right (Nat.le_refl _)] at this
      simpa using this
    obtain ⟨k, rfl⟩ := dv
    obtain ⟨j, rfl⟩ : ∃ j, k = j + 1 := ⟨k - 1, by
      have : k ≠ 0 := fun z => by subst z; simp at h0
      omega⟩
    have e3 := hq a'.length (by omega)
    have e4 := pf.mul j (a'.length + 1 + b'.length) (by omega)
    rw [← fa, ← fb, ← e4, ← e3]
    congr 1
    rw [Nat.mul_succ]
    omega
/-- a, b is the least form of h, r -/
structure Least (h r a b : List Nat) : Prop where
  row : rw a b = rw h r
  min : IsMin (rw h r) a.length b.length
theorem Least.of {h r a b : List Nat} (v : LInv (rw h r) a b) (e : a = [] ∨ ∃ a' b' x y, a = a' ++ [x] ∧ b = b' ++ [y] ∧ x ≠ y) : Least h r a b := ⟨v.row, linv_end v e⟩
theorem Least.uniq {h r h' r' a b a' b' : List Nat} (e : rw h r = rw h' r') (x : Least h r a b) (y : Least h' r' a' b') : a = a' ∧ b = b' := by
  have y2 := y.min
  rw [← e] at y2
  obtain ⟨e1, e2⟩ := x.min.uniq y2
  have r1 := rw_head a b
  have r2 := rw_head a' b'
  have r3 := rw_ring a b
  have r4 := rw_ring a' b'
  rw [x.row] at r1 r3
  rw [y.row, ← e] at r2 r4
  exact ⟨by rw [← r1, ← r2, e1], by rw [← r3, ← r4, e1, e2]⟩
theorem Least.bound {h r a b : List Nat} (hr : 0 < r.length) (x : Least h r a b) : a.length ≤ h.length ∧ b.length ≤ r.length ∧ 0 < b.length :=
  let ⟨h1, h2⟩ := x.min.le hr (rw_per h r)
  ⟨h1, h2, x.min.pos⟩
/-- the law's own test: the first so many letters of a candidate -/
theorem cand_check {h r : List Nat} {m p n : Nat} (hr : 0 < r.length) (hp : 0 < p) (hm : m ≤ h.length) (hp2 : p ≤ r.length) (hn : h.length + r.length + p ≤ n) :
    seg (rw (seg (rw h r) 0 m) (seg (rw h r) m p)) 0 n = seg (rw h r) 0 n ↔ Per (rw h r) m p := by
  constructor
  · intro e
    have pg := rw_per (seg (rw h r) 0 m) (seg (rw h r) m p)
    rw [seg_len, seg_len] at pg
    have ef := fine_wilf (rw_per h r) (pg.mono hm) hr hp fun i hi => by
      have := seg_inj e i (by omega)
      simpa using this.symm
    rw [ef]
    exact pg
  · intro pf
    rw [per_rw pf hp]
theorem ok_S {l : List Nat} (h : Wd l) : PyData.strOk (S l) = true := by
  unfold PyData.strOk S
  rw [← Array.all_toList]
  exact List.all_eq_true.mpr fun c hc => decide_eq_true (by rcases h c hc with e | e | e <;> omega)
theorem S_beq (a b : List Nat) : (S a == S b) = decide (a = b) := SX.S_beq_eq
/-- == of two tuples of two texts -/
theorem r_eqSS {K : PySem.W.Frag} {H : Hp} {Q : VK} {x y : Addr} {a b c d : List Nat} (h1 : SqT K H x [.str (S a), .str (S b)]) (h2 : SqT K H y [.str (S c), .str (S d)]) (oa : Wd a) (ob : Wd b) (oc : Wd c) (od : Wd d)
    (q : Q (.bl (decide (a = c ∧ b = d))) H) : rEqD K (.ref x) (.ref y) H Q := by
  refine ⟨_, _, .tup h1 (.cons (.str _) (.cons (.str _) .nil)), .tup h2 (.cons (.str _) (.cons (.str _) .nil)), ?_, ?_, ?_⟩
  · unfold SeqAt.shaped
    simp only [PyData.canLay0, PyData.canLayAll0, ok_S oa, ok_S ob, PyData.depth, PyData.depthAll]
    rfl
  · unfold SeqAt.shaped
    simp only [PyData.canLay0, PyData.canLayAll0, ok_S oc, ok_S od, PyData.depth, PyData.depthAll]
    rfl
  · have e : PyData.eqv (.tuple [.str (S a), .str (S b)]) (.tuple [.str (S c), .str (S d)]) = decide (a = c ∧ b = d) := by
      simp only [PyData.eqv, PyData.eqvAll, Bool.and_true, S_beq, Bool.decide_and]
    rw [e]
    exact q
theorem Least.wd {h r a b : List Nat} (hr : 0 < r.length) (wh : Wd h) (wr : Wd r) (x : Least h r a b) : Wd a ∧ Wd b := by
  have w : ∀ i, rw h r i = 110 ∨ rw h r i = 102 ∨ rw h r i = 115 := fun i => by
    by_cases hi : i < h.length
    · rw [rw_lt hi, List.getD_eq_getElem?_getD, List.getElem?_eq_getElem hi]
      exact wh _ (List.getElem_mem hi)
    · have hm : (i - h.length) % r.length < r.length := Nat.mod_lt _ hr
      rw [rw_ge (by omega), List.getD_eq_getElem?_getD, List.getElem?_eq_getElem hm]
      exact wr _ (List.getElem_mem hm)
  have ws : ∀ a n, Wd (seg (rw h r) a n) := fun a n c hc => by
    unfold seg at hc
    obtain ⟨j, _, e⟩ := List.mem_map.mp hc
    rw [← e]
    exact w _
  have e1 := rw_head a b
  have e2 := rw_ring a b
  rw [x.row] at e1 e2
  exact ⟨e1 ▸ ws 0 a.length, e2 ▸ ws a.length b.length⟩
theorem atI_neg (l : List Nat) (c : Nat) : atI (l ++ [c]) (-1) = some c := atI_last _ _
theorem cut_last (l : List Nat) (c : Nat) : cutS (S (l ++ [c])) none (some (-1)) = S l := by
  rw [cut_S, HT.sIx_none]
  have e : HT.sIx (l ++ [c]).length (l ++ [c]).length (some (-1)) = l.length := by
    show (if (-1 : Int) < 0 then ((-1 : Int) + ((l ++ [c]).length : Int)).toNat else min (-1 : Int).toNat (l ++ [c]).length) = l.length
    rw [if_pos (by decide), List.length_append]
    simp
    omega
  rw [e]
  simp
theorem snoc_of {l : List Nat} (h : 0 < l.length) : ∃ a c, l = a ++ [c] := ⟨l.dropLast, l.getLast (by intro z; subst z; simp at h), (List.dropLast_concat_getLast _).symm⟩
theorem r_ixS {H : Hp} {Q : VK} {l : List Nat} {i : Int} {c : Nat} (hl : l.length ≤ 1000000) (h : atI l i = some c) (q : Q (.str (S [c])) H) : rIxS (.str (S l)) (.int i) H Q := ⟨_, i, c, rfl, rfl, by rw [S_len]; exact le_line hl, by rw [S_codes]; exact h, q⟩
/-! ### the same row told otherwise -/
theorem rw_longer {h r : List Nat} (r0 : 0 < r.length) : rw (h ++ r) r = rw h r := by
  have pf := rw_per h r
  have := per_rw (pf.mono (show h.length ≤ h.length + r.length by omega)) r0
  have e1 : seg (rw h r) 0 (h.length + r.length) = h ++ r := by
    rw [← seg_app, rw_head, Nat.zero_add, rw_ring]
  have e2 : seg (rw h r) (h.length + r.length) r.length = r := by
    conv => rhs; rw [← rw_ring h r]
    exact seg_ext fun i _ => by
      have := pf (h.length + i) (by omega)
      rw [← this]
      congr 1
      omega
  rw [e1, e2] at this
  exact this
theorem seg_rep {f : Nat → Nat} {m p : Nat} (pf : Per f m p) : ∀ k, seg f m (k * p) = (List.replicate k (seg f m p)).flatten
  | 0 => by simp [seg]
  | k + 1 => by
    rw [List.replicate_succ', List.flatten_append, ← seg_rep pf k, List.flatten_cons, List.flatten_nil, List.append_nil, Nat.succ_mul, ← seg_app]
    congr 1
    exact seg_ext fun i _ => by
      have := pf.mul k (m + i) (by omega)
      rw [← this]
      congr 1
      rw [Nat.mul_comm p k]
      omega
theorem rw_often {h r : List Nat} {k : Nat} (r0 : 0 < r.length) (hk : 0 < k) : rw h (List.replicate k r).flatten = rw h r := by
  have pf := rw_per h r
  have := per_rw (pf.mul k) (Nat.mul_pos r0 hk)
  rw [rw_head, Nat.mul_comm, seg_rep pf, rw_ring] at this
  exact this
theorem rw_turn {h r : List Nat} {c : Nat} : rw (h ++ [c]) (r ++ [c]) = rw h (c :: r) := by
  have pf := rw_per h (c :: r)
  have e0 := rw_ring h (c :: r)
  rw [List.length_cons] at pf e0
  have fa : rw h (c :: r) h.length = c := by
    rw [rw_ge (Nat.le_refl _), Nat.sub_self, Nat.zero_mod]
    rfl
  have := per_rw (pf.mono (show h.length ≤ h.length + 1 by omega)) (show 0 < r.length + 1 by omega)
  have s1 : seg (rw h (c :: r)) h.length 1 = [c] := by simp [seg, fa]
  have e1 : seg (rw h (c :: r)) 0 (h.length + 1) = h ++ [c] := by
    rw [← seg_app, rw_head, Nat.zero_add, s1]
  have e2 : seg (rw h (c :: r)) (h.length + 1) (r.length + 1) = r ++ [c] := by
    rw [← seg_app]
    congr 1
    · have h1 : seg (rw h (c :: r)) h.length 1 ++ seg (rw h (c :: r)) (h.length + 1) r.length = seg (rw h (c :: r)) h.length (1 + r.length) := seg_app
      rw [Nat.add_comm 1 r.length, e0, s1] at h1
      simpa using h1
    · have := pf h.length (Nat.le_refl _)
      rw [fa] at this
      simp [seg]
      rw [show h.length + 1 + r.length = h.length + (r.length + 1) by omega]
      exact this
  rw [e1, e2] at this
  exact this
theorem cut_mid {l : List Nat} {a b : Nat} (h : a ≤ b) (h2 : b ≤ l.length) : cutS (S l) (some (a : Int)) (some (b : Int)) = S ((l.drop a).take (b - a)) := by
  rw [cut_S, sIx_le h2, sIx_le (show a ≤ l.length by omega)]
/-- rows agree if so many letters do -/
theorem rows_check {h r h' r' : List Nat} {n : Nat} (r0 : 0 < r.length) (r0' : 0 < r'.length) (hn : h.length + r.length + r'.length ≤ n) (hn2 : h'.length + r.length + r'.length ≤ n) :
    seg (rw h r) 0 n = seg (rw h' r') 0 n ↔ rw h r = rw h' r' := by
  constructor
  · intro e
    refine fine_wilf ((rw_per h r).mono (Nat.le_max_left h.length h'.length)) ((rw_per h' r').mono (Nat.le_max_right _ _)) r0 r0' fun i hi => ?_
    have := seg_inj e i (by omega)
    simpa using this
  · intro e
    rw [e]
theorem cut_dl (l : List Nat) : cutS (S l) none (some (-1)) = S l.dropLast := by
  by_cases h : 0 < l.length
  · obtain ⟨a, c, rfl⟩ := snoc_of h
    rw [cut_last]
    simp
  · have : l = [] := List.eq_nil_of_length_eq_zero (by omega)
    subst this
    rw [cut_S]
    rfl
theorem r_revS {te : TE} {σ : L2.St} {H : Hp} {Q : VK} (h : te σ H fun x H1 => rRev x H1 Q) : tRevS te σ H Q := h
theorem r_revT {l : List Nat} {H : Hp} {Q : VK} (hl : l.length ≤ 1000000) (q : Q (.str (S l.reverse)) H) : rRev (.str (S l)) H Q := ⟨_, rfl, by rw [S_len]; exact le_line hl, by rw [S_codes]; exact q⟩
theorem r_catL {H : Hp} {Q : VK} {l b : Addr} {xs zs : List V} (h1 : H l = some (.lst xs)) (h2 : H b = some (.lst zs)) (hz : xs.length + zs.length ≤ 1000000) (q : ∀ p, H p = none → Q (.ref p) (upd H p (.lst (xs ++ zs)))) : rCat (.ref l) (.ref b) H Q := ⟨l, b, xs, zs, rfl, rfl, h1, h2, le_line hz, q⟩
theorem r_notB {a b : Bool} {H : Hp} {Q : VK} (q : Q (.bl (!decide (a = b))) H) : rNotB (.bl a) (.bl b) H Q := ⟨a, b, rfl, rfl, q⟩
theorem r_isB {a b : Bool} {H : Hp} {Q : VK} (q : Q (.bl (decide (a = b))) H) : rIsB (.bl a) (.bl b) H Q := ⟨a, b, rfl, rfl, q⟩
theorem Wd.dl {a : List Nat} (h : Wd a) : Wd a.dropLast := fun c hc => h c (List.dropLast_subset _ hc)
theorem Wd.rev {a : List Nat} (h : Wd a) : Wd a.reverse := fun c hc => h c (List.mem_reverse.mp hc)
section
variable {K : PySem.W.Frag}
/-- [f(x) for x in t], f of a bool -/
theorem lcT_bl {xs : List V} {t : Addr} {g : TG} {te : TE} {vs : List Nat} {σ : L2.St} {H1 : Hp} {D : Addr} {Qd : Hp → Prop} (bs : List Bool) (hb : bs.length = xs.length) (hD : H1 D = none) (hT : SqT K H1 t xs) (hl : xs.length ≤ 1000000)
    (hs : ∀ (i : Nat) (x : V) (b : Bool) (H : Hp), xs[i]? = some x → bs[i]? = some b → Same H1 H → ∀ R : V → Hp → Prop, (∀ H', Same H H' → R (.bl b) H') → g x (wipe σ vs) H fun σ2 H2 => wipe σ2 vs = wipe σ vs ∧ te σ2 H2 R)
    (hd : ∀ H, Same H1 H → H D = some (.lst (bs.map V.bl)) → Qd H) :
    ∃ W : Nat → Nat → Hp → Prop, (∃ m, W 0 m (upd H1 D (.lst []))) ∧ ∀ i m H, W i m H →
      ((Itt K t).stop i H ∧ Qd H) ∨ ((Itt K t).go i H ∧ ∃ Nx : Hp → Prop, (∀ H', Nx H' → ∃ m', m' < m ∧ W (i + 1) m' H') ∧ ∀ x H', (Itt K t).yld i H x H' → g x (wipe σ vs) H' fun σ2 H2 => wipe σ2 vs = wipe σ vs ∧ tYes σ2 H2 fun b H3 =>
        if b = true then te σ2 H3 fun y H4 => ∃ acc, H4 D = some (.lst acc) ∧ acc.length < sizeLine ∧ Nx (upd H4 D (.lst (acc ++ [y]))) else Nx H3) := by
  refine lc_acc (n := xs.length) (fun i H' => Same H1 H') (fun i v => ∃ b, bs[i]? = some b ∧ v = .bl b) hl (same_new hD) (fun i H' acc acc' e _ => Same.mut e hD) (fun i H' hi e => ?_) (fun H' e => ?_) ?_ ?_
  · exact ⟨xs, xs[i], Same.sqt e hT, List.getElem?_eq_getElem hi⟩
  · exact ⟨xs, Same.sqt e hT, Nat.le_refl _⟩
  · rintro i x H H' acc hi e hacc ⟨rfl, f⟩ R hR
    have eb : bs[i]? = some bs[i] := List.getElem?_eq_getElem (by omega)
    exact hs i x _ _ (f _ (Same.sqt e hT)) eb e R fun H4 e4 => hR _ _ (e4 _ _ hacc) ⟨_, eb, rfl⟩ (e.trans e4)
  · intro H acc hl2 hv hacc e
    have : acc = bs.map V.bl := by
      apply List.ext_getElem?
      intro i
      by_cases hi : i < xs.length
      · obtain ⟨b, eb, ev⟩ := hv i acc[i] (List.getElem?_eq_getElem (by omega))
        rw [List.getElem?_eq_getElem (by omega), ev, List.getElem?_map, eb]
        rfl
      · rw [List.getElem?_eq_none (by omega), List.getElem?_eq_none (by simp; omega)]
    rw [this] at hacc
    exact hd _ e hacc
/-- [.. for x in t]: each one true -/
theorem lcT_true {xs : List V} {t : Addr} {g : TG} {te : TE} {vs : List Nat} {σ : L2.St} {H1 : Hp} {D : Addr} {Qd : Hp → Prop} (hD : H1 D = none) (hT : SqT K H1 t xs) (hl : xs.length ≤ 1000000)
    (hs : ∀ (i : Nat) (x : V) (H : Hp), xs[i]? = some x → Same H1 H → ∀ R : V → Hp → Prop, (∀ H', Same H H' → R (.bl true) H') → g x (wipe σ vs) H fun σ2 H2 => wipe σ2 vs = wipe σ vs ∧ te σ2 H2 R)
    (hd : ∀ H, Same H1 H → H D = some (.lst (List.replicate xs.length (.bl true))) → Qd H) :
    ∃ W : Nat → Nat → Hp → Prop, (∃ m, W 0 m (upd H1 D (.lst []))) ∧ ∀ i m H, W i m H →
      ((Itt K t).stop i H ∧ Qd H) ∨ ((Itt K t).go i H ∧ ∃ Nx : Hp → Prop, (∀ H', Nx H' → ∃ m', m' < m ∧ W (i + 1) m' H') ∧ ∀ x H', (Itt K t).yld i H x H' → g x (wipe σ vs) H' fun σ2 H2 => wipe σ2 vs = wipe σ vs ∧ tYes σ2 H2 fun b H3 =>
        if b = true then te σ2 H3 fun y H4 => ∃ acc, H4 D = some (.lst acc) ∧ acc.length < sizeLine ∧ Nx (upd H4 D (.lst (acc ++ [y]))) else Nx H3) := by
  refine lc_acc (n := xs.length) (fun i H' => Same H1 H') (fun _ v => v = .bl true) hl (same_new hD) (fun i H' acc acc' e _ => Same.mut e hD) (fun i H' hi e => ?_) (fun H' e => ?_) ?_ ?_
  · exact ⟨xs, xs[i], Same.sqt e hT, List.getElem?_eq_getElem hi⟩
  · exact ⟨xs, Same.sqt e hT, Nat.le_refl _⟩
  · rintro i x H H' acc hi e hacc ⟨rfl, f⟩ R hR
    exact hs i x _ (f _ (Same.sqt e hT)) e R fun H4 e4 => hR _ _ (e4 _ _ hacc) rfl (e.trans e4)
  · intro H acc hl2 hv hacc e
    rw [all_true hl2 hv] at hacc
    exact hd _ e hacc
end
end Tf

set_option Elab.async false
set_option linter.all false
set_option maxRecDepth 100000
set_option maxHeartbeats 2000000
/-! exceptions that are caught and held, lambdas that are handed on -/
namespace Tf
open PySem PySem.Spec PyProof.Rows L2 LamX

/-! ### a caught exception, held as a value -/
/-- at a: an exception of the class cls, its dict at d -/
def ExcV (cls : Value) (d : Option Addr) (a : Addr) : HO := .ext fun h => ∃ (oe : Obj) (vs : Array Value), h.get? a = some oe ∧ Zc cls d oe ∧ oe.data = .fields vs
theorem excV_ok {P : Program} {w : World} {H : Hp} {h : Heap} {a : Addr} {cls : Value} {d : Option Addr} {oe : Obj} {vs : Array Value} (e : h.get? a = some oe) (z : Zc cls d oe) (f : oe.data = .fields vs) : ObjOk P w H h a (ExcV cls d a) :=
  ⟨⟨oe, vs, e, z, f⟩, ⟨oe, e⟩, fun _ _ ⟨o, v, q, r⟩ k => ⟨o, v, k o q, r⟩⟩
theorem excV_at {P : Program} {w : World} {H : Hp} {h : Heap} {a : Addr} {cls : Value} {d : Option Addr} (hok : HOk P w H h) (e : H a = some (ExcV cls d a)) : ∃ (oe : Obj) (vs : Array Value), h.get? a = some oe ∧ Zc cls d oe ∧ oe.data = .fields vs := by
  have x : ObjOk P w H h a (.ext fun h => ∃ (oe : Obj) (vs : Array Value), h.get? a = some oe ∧ Zc cls d oe ∧ oe.data = .fields vs) := hok a _ e
  exact x.1
section
variable {X : Cx} {pins : List (Addr × Obj)} {σ : L2.St} {H : Hp} {s : Shared}
/-- an exception of ours, new since the entry, is tracked from now on -/
theorem track {a : Addr} {oe : Obj} {vs : Array Value} {cls : Value} {d : Option Addr} (I : Inv X pins σ H s) (ha : s.heap.get? a = some oe) (hz : Zc cls d oe) (hd : oe.data = .fields vs) (na : H a = none) (n0 : X.s_0.heap.get? a = none)
    (nL : a ≠ X.env.locals) (np : ∀ p ∈ X.pn ++ pins, p.1 ≠ a) : Inv X pins σ (upd H a (ExcV cls d a)) s := by
  have n0' : ∀ b o, X.s_0.heap.get? b = some o → b ≠ a := fun b o e z => by
    rw [z, n0] at e
    cases e
  refine ⟨I.ok, I.os, I.bare, ⟨I.base.keep, I.base.slot, fun b o e n hx => by rw [upd_ne (n0' b o e)]; exact I.base.free b o e n hx, I.base.there, fun b xs e => ?_, fun b o u e => ?_, fun b ps e => ?_⟩, I.loc, I.cell, by rw [upd_ne (Ne.symm nL)]; exact I.free, fun x c e => ?_, fun p hp => ?_, fun b u e => ?_, I.len⟩
  · have q := I.base.tups b xs e
    rw [upd_ne (ne_of_none q na)]
    exact q
  · have q := I.base.frzs b o u e
    rw [upd_ne (ne_of_none q na)]
    exact q
  · obtain ⟨m, q⟩ := I.base.tbls b ps e
    exact ⟨m, by rw [upd_ne (ne_of_none q na)]; exact q⟩
  · obtain ⟨v, o, q1, q2⟩ := I.cell x c e
    rw [upd_ne (fun z => by
      rw [z, ha] at q1
      cases q1
      rw [hd] at q2
      cases q2)]
    exact I.freeC x c e
  · obtain ⟨e, n, r⟩ := I.pin p hp
    exact ⟨e, by rw [upd_ne (np p hp)]; exact n, r⟩
  · by_cases hb : b = a
    · subst hb
      rw [upd_same] at e
      cases e
      exact excV_ok ha hz hd
    · rw [upd_ne hb] at e
      exact (I.hok b u e).stay (fun c v _ q => q) (fun c q => by rw [upd_ne (ne_of_none q na)]; exact q) fun c xs q => by rw [upd_ne (ne_of_none q na)]; exact q
end
/-- what 'except x as n' wishes: behind the suite the exception is known as a value -/
def endV (i : Nat) (a : Addr) (cls : Value) (d : Option Addr) (D : Ends) : Ends := { nx := fun σ' H' => D.nx (σ'.set i none) (upd H' a (ExcV cls d a)), rt := fun v H' => D.rt v (upd H' a (ExcV cls d a)), bk := fun σ' H' => D.bk (σ'.set i none) (upd H' a (ExcV cls d a)), ct := fun σ' H' => D.ct (σ'.set i none) (upd H' a (ExcV cls d a)) }
def wAsV (K : PySem.W.Frag) (c : Value) (i : Nat) (ts : Addr → Value → Option Addr → TS) (Wout : WX) (D : Ends) : WX := fun cls d σ H =>
  ∃ b, PySem.W.exmOne K cls c = some b ∧ (b = true → ∀ a, H a = none → ts a cls d (endV i a cls d D) (σ.set i (some (.ref a))) H) ∧ (b = false → Wout cls d σ H)
section
variable {X : Cx} {pins : List (Addr × Obj)} {σ σ' : L2.St} {H H' : Hp} {sI s : Shared} {B h : Heap} {a : Addr} {cls : Value} {d : Option Addr}
/-- an exception that landed is none of the frames, none of what was there at the entry, none of the pins -/
theorem landed_new (hs : X.stack = X.env :: X.outer) (hf : X.env.frame = some X.env.locals) (hex : X.ex = []) (J : Inv X pins σ H sI) (nb : ∀ b o, sI.heap.get? b = some o → b ∉ frs X.stack → B.get? b = some o)
    (fl : HandSPX.FlyingZ B (X.env :: X.outer) a (Zc cls d) h) : a ≠ X.env.locals ∧ a ∉ X.fs ∧ X.s_0.heap.get? a = none ∧ ∀ p ∈ X.pn ++ pins, p.1 ≠ a := by
  obtain ⟨oe, vs, he, _, hd⟩ := fl.there
  have out : a ∉ frs X.stack := by
    rw [hs]
    intro hm
    obtain ⟨_, o, e, hnf⟩ := fl.2.2.1.mem hm
    exact hnf vs (by rw [← hd]; exact congrArg Obj.data (Option.some.inj (e.symm.trans he)))
  have inF : ∀ e ∈ X.env :: X.outer, e.frame ≠ some a := fun e he z => out (by rw [hs]; exact List.mem_filterMap.mpr ⟨e, he, z⟩)
  have gone : ∀ o, sI.heap.get? a ≠ some o := fun o e => by
    have z := (nb a o e out).symm.trans fl.2.1
    cases z
  refine ⟨fun z => inF X.env List.mem_cons_self (by rw [hf, z]), fun hm => ?_, ?_, fun p hp z => gone p.2 (z ▸ (J.pin p hp).1)⟩
  · obtain ⟨e, he, z⟩ := List.mem_filterMap.mp hm
    exact inF e (List.mem_cons_of_mem _ he) z
  · cases e : X.s_0.heap.get? a with
    | none => rfl
    | some o =>
      obtain ⟨o', z⟩ := J.base.there a o e (by simp [hex])
      exact absurd z (gone o')
/-- fewer pins -/
theorem Inv.drop {p : Addr × Obj} (I : Inv X (p :: pins) σ H s) : Inv X pins σ H s := ⟨I.ok, I.os, I.bare, I.base, I.loc, I.cell, I.free, I.freeC, fun r hr => I.pin r ((List.mem_append.mp hr).elim (List.mem_append_left _) fun z => List.mem_append_right _ (List.mem_cons_of_mem _ z)), I.hok, I.len⟩
/-- behind the suite the pin is still told -/
theorem Inv.behind {p : Addr × Obj} (ok : X.Ok) (I : Inv (X.suite a (p :: (X.pn ++ pins))) [] σ H s) : Inv X (p :: pins) σ H s := ⟨ok, I.os, I.bare, I.base, I.loc, I.cell, I.free, I.freeC, fun r hr => I.pin r (List.mem_append_left _ (by
  rcases List.mem_append.mp hr with z | z
  · exact List.mem_cons_of_mem _ (List.mem_append_left _ z)
  · rcases List.mem_cons.mp z with z | z
    · rw [z]
      exact List.mem_cons_self
    · exact List.mem_cons_of_mem _ (List.mem_append_right _ z))), I.hok, I.len⟩
variable {x n : Str} {c : Value} {i : Nat} {body suite : List Stmt} {b₀ : Stmt} {np pos pos' : Pos} {tb : WX → TS} {ts : Addr → Value → Option Addr → TS} {Wout : WX}
/-- the name of the clause goes, the exception is known as a value -/
theorem behind_as {oe : Obj} {vs : Array Value} {A : Around} {E : Value → Shared → Prop} {Q : Unit → Shared → Prop} (ok : X.Ok) (hN : X.N.Nodup) (hi : X.N[i]? = some n) (hln : X.env.kindOf n = some .local) (hz : Zc cls d oe) (hd : oe.data = .fields vs) (n0 : X.s_0.heap.get? a = none)
    (nL : a ≠ X.env.locals) (np : ∀ p ∈ X.pn ++ pins, p.1 ≠ a) (I : Inv (X.suite a ((a, oe) :: (X.pn ++ pins))) [] σ H s) (q : ∀ s', Inv X pins (σ.set i none) (upd H a (ExcV cls d a)) s' → Q () s') :
    wpAny (model X.prog X.w) A (do bindName X.env n .none; unbindBehindTheSuite X.env n pos') Q E s := by
  refine gone_ok (Inv.behind ok I) hN hi hln fun s' J => q s' ?_
  obtain ⟨e, na, _⟩ := J.pin (a, oe) (List.mem_append_right _ List.mem_cons_self)
  exact track (Inv.drop J) e hz hd na n0 nL np
/-- try: body / except x as n: suite, the exception held behind it -/
theorem ps_try_asV (hs : X.stack = X.env :: X.outer) (hf : X.env.frame = some X.env.locals) (hex : X.ex = []) (hN : X.N.Nodup) (hi : X.N[i]? = some n) (hln : X.env.kindOf n = some .local) (hg : Gl X x) (hm : X.mg x = some c) (hdb : (x == ("__debug__" : Str)) = false) (tk : Takes X Wout)
    (hb : ∀ (W : WX) (pn : List (Addr × Obj)) (xe : Value → Shared → Prop), Takes (X.tr pn xe) W → PSs (X.tr pn xe) body (tb W))
    (hsu : ∀ (a : Addr) (oe : Obj) (cls : Value) (d : Option Addr) (pn : List (Addr × Obj)), PSs (X.suite a ((a, oe) :: pn)) (b₀ :: suite) (ts a cls d)) :
    PS X (.Try body [.ExceptHandler (some (.Name x np)) (some n) (b₀ :: suite) pos'] [] [] pos) (fun D σ H => tb (wAsV X.K c i ts Wout D) D σ H) := by
  constructor
  intro pins s σ H D I h
  have ok := I.ok
  refine wpAny_Try_except (wpAny_mono ((hb (wAsV X.K c i ts Wout D) (X.pn ++ pins) _ fun u s' air => ?fall).run [] s σ H D (I.toTry _) h) (fun f s1 z => ?over) (fun e s1 z => z))
  case over =>
    cases f with
    | next =>
      obtain ⟨σ', H', J, z⟩ := z
      exact wpAny_execs_nil ⟨σ', H', J.ofTry ok, z⟩
    | ret u =>
      obtain ⟨v, σ', H', J, z⟩ := z
      exact ⟨v, σ', H', J.ofTry ok, z⟩
    | brk | cont =>
      obtain ⟨σ', H', J, z⟩ := z
      exact ⟨σ', H', J.ofTry ok, z⟩
  case fall =>
    obtain ⟨a, B, sI, _, σ', H', cls, d, rfl, J, nb, up, sky, na, os, ag, b, eb, yes, no⟩ := air
    replace J : Inv X pins σ' H' sI := J.ofTry ok
    refine Sky.land (env := X.env) (outer := X.outer) Zc.steady (by rw [ok.frames, hs]) hf (by rw [← hs]; exact sky) fun h3 fl up' => ?_
    obtain ⟨nL, nF, n0, np⟩ := landed_new hs hf hex J nb fl
    obtain ⟨oe, vs, he, hz, hd⟩ := fl.there
    have J3 : Inv X pins σ' H' { s' with heap := h3 } := J.landed nb fl.1 (up.trans up') os ag
    refine wpAny_handleBy_cons (codeAny_handlers_test ?_) (fun z => nomatch z)
    have type : PySem.W.Looks (model X.prog X.w) h3 (typeOf (.ref a)) cls := fun _ _ _ _ k z => wpAny_typeOf_ref (k _ _ he) (by rw [hz.1]; exact z)
    refine ld_glob (X := X.suite a ((a, oe) :: (X.pn ++ pins))) (J3.suite he hd na nL nF) hg hm ((PySem.W.exm_one (M := model X.prog X.w) J3.kIn type eb).here ?_) hdb
    cases b with
    | false =>
      refine wpAny_handleBy_nil ?_
      obtain ⟨_, _, _, o2, v2, T, _, _, g1, _, g2, g3, _⟩ := id fl
      unfold PySem.passOn
      refine wpAny_bind (wpAny_field g1 g2 g3 ?_)
      have on : wpAny (model X.prog X.w) X.A (setFlight (.ref a) X.env.frame) (fun _ s4 => wpAny (model X.prog X.w) X.A (throw (.ref a) : Sem Flow) (SP X pins D) X.xe s4) X.xe { s' with heap := h3 } := by
        rw [hf]
        exact HandSPX.setFlight_upZ fl fun h4 held up4 => wpAny_throw (tk _ _ ⟨a, B, sI, pins, σ', H', cls, d, rfl, J, nb, (up.trans up').trans up4, .inr (.inr (by rw [hs]; exact held)), na, os, ag, no rfl⟩)
      rw [if_neg (by simp)]
      first | exact wpAny_bind (wpAny_pure (wpAny_bind on)) | exact wpAny_bind on
    | true =>
      refine codeAny_handlers_suite_as (HandSPX.lands_againZ fl fun h4 fl4 up4 => ?_)
      obtain ⟨oe, vs, he, hz, hd⟩ := fl4.there
      have J4 : Inv X pins σ' H' { s' with heap := h4 } := J.landed nb fl4.1 ((up.trans up').trans up4) os ag
      refine store_ok (X := X.suite a ((a, oe) :: (X.pn ++ pins))) (v := .ref a) (J4.suite he hd na nL nF) hN hi (.inl hln) rfl (fun s5 S5 => ?_) (.inr hln)
      refine wpAny_mono ((hsu a oe cls d (X.pn ++ pins)).run [] s5 _ H' _ S5 (yes rfl a na)) (fun f s6 z => ?_) (fun _ _ z => z.elim)
      cases f with
      | ret u =>
        obtain ⟨v, σ6, H6, S6, r, z⟩ := z
        exact behind_as ok hN hi hln hz hd n0 nL np S6 fun s7 J7 => ⟨v, _, _, J7, r, z⟩
      | next | brk | cont =>
        obtain ⟨σ6, H6, S6, z⟩ := z
        exact behind_as ok hN hi hln hz hd n0 nL np S6 fun s7 J7 => ⟨_, _, J7, z⟩
end

/-! ### what the written part says of an exception class of the program -/
structure ECls (K : PySem.W.Frag) (C fI : Addr) : Prop where
  o : OexC K C
  f : XfC K C
  i : ExcC K C
  no : PySem.W.findIn K (.ref C) "value" = some none
  ini : PySem.W.findIn K (.ref C) "__init__" = some (some (.ref fI))
  tI : PySem.W.typeIn K (.ref fI) = some (.type "function")
def oexB (K : PySem.W.Frag) (C : Addr) : Bool := match K.lookup C with
  | some ⟨.type "type", _, .cls cd, sl⟩ => (match cd.mro, sl.toList with
    | .ref C' :: bm, [_, _, _, _, some (.builtin n), _] => C' == C && (n == "ValueError.__new__" && (!cd.hasDel && (cd.hasDict && PySem.HandSPX.refsVE bm)))
    | _, _ => false)
  | _ => false
theorem oexB_ok {K : PySem.W.Frag} {C : Addr} (q : oexB K C = true) : ∃ nm q N bs bm sn sub ab col dd k0 k1 k2 k3 k5, K.lookup C = some (excClassObj nm q C N bs bm true sn sub ab col dd k0 k1 k2 k3 k5 "ValueError.__new__") ∧ PySem.HandSPX.refsVE bm = true := by
  unfold oexB at q
  split at q
  · rename_i dd cd sl ho
    split at q
    · rename_i C' bm k0 k1 k2 k3 n k5 hm hs
      simp only [Bool.and_eq_true, beq_iff_eq, Bool.not_eq_true'] at q
      obtain ⟨rfl, rfl, hdel, hdic, ht⟩ := q
      obtain ⟨nm, bs, mro, ns, qn, hd, sn, sub, ab, col, del⟩ := cd
      dsimp only at hm hdel hdic
      subst hm hdel hdic
      have hsl : sl = #[k0, k1, k2, k3, some (.builtin "ValueError.__new__"), k5] := by
        obtain ⟨l⟩ := sl
        simp only at hs
        rw [hs]
      subst hsl
      exact ⟨nm, qn, ns, bs, bm, sn, sub, ab, col, dd, k0, k1, k2, k3, k5, ho, ht⟩
    · cases q
  · cases q
def eclsL (K : PySem.W.Frag) (C fI : Addr) : List Bool := [oexB K C, He.eqO (PySem.W.findIn K (.ref C) "__setattr__") (some (some (.builtin "object.__setattr__"))), decide (PySem.W.subIn K (.ref C) (.type "BaseException") = some true), decide (PySem.W.typeIn K (.ref C) = some (.type "type")), PySem.W.keepIn K (.ref C), xfB K C,
  He.eqO (PySem.W.findIn K (.ref C) "__class__") (some (some (.builtin "object.__class__"))), He.eqO (PySem.W.specialIn K (.builtin "object.__class__") "__get__") (some (some (.builtin "getset_descriptor.__get__"))), decide (PySem.W.takesIn K (.builtin "object.__class__") = some true),
  decide (PySem.W.mroIn K C (.type "object") = some true), He.eqO (PySem.W.findIn K (.ref C) "value") (some none), He.eqO (PySem.W.findIn K (.ref C) "__init__") (some (some (.ref fI))), decide (PySem.W.typeIn K (.ref fI) = some (.type "function"))]
def eclsB (K : PySem.W.Frag) (C fI : Addr) : Bool := (eclsL K C fI).all id
theorem ecls_ok {K : PySem.W.Frag} {C fI : Addr} (h : eclsB K C fI = true) : ECls K C fI := by
  unfold eclsB eclsL at h
  simp only [List.all_cons, List.all_nil, Bool.and_true, Bool.and_eq_true, id] at h
  obtain ⟨h1, h2, h3, h4, h5, h6, h7, h8, h9, h10, h11, h12, h13⟩ := h
  have x := xfB_ok h6
  exact ⟨⟨oexB_ok h1, He.eqO_ok h2, of_decide_eq_true h3, of_decide_eq_true h4, h5⟩, x, ⟨x.ga, x.gg, x.exC, x.hdC, He.eqO_ok h7, He.eqO_ok h8, of_decide_eq_true h9, of_decide_eq_true h10⟩, He.eqO_ok h11, He.eqO_ok h12, of_decide_eq_true h13⟩

/-! ### e.value of a held exception -/
def tXv (K : PySem.W.Frag) (n : Str) (te : TE) : TE := fun σ H Q => te σ H fun x H1 => ∃ (a C dd : Addr) (fs : List (Str × V)) (v : V), x = .ref a ∧ H1 a = some (ExcV (.ref C) (some dd) a) ∧ H1 dd = some (.xd fs) ∧ XfC K C ∧ PySem.W.findIn K (.ref C) n = some none ∧ fs.lookup n = some v ∧ Q v H1
theorem excV_inst {X : Cx} {pins : List (Addr × Obj)} {σ : L2.St} {H : Hp} {s : Shared} {a C dd : Addr} {fs : List (Str × V)} (I : Inv X pins σ H s) (ea : H a = some (ExcV (.ref C) (some dd) a)) (ed : H dd = some (.xd fs)) :
    ∃ (oe od : Obj) (mA : Str → Option Value), PySem.W.InstAt s.heap a oe C (some od) ∧ (∀ f, RelO (fs.lookup f) (mA f)) ∧ ∀ f, PySem.W.lookIn f od = some (mA f) := by
  obtain ⟨oe, vs, he, hz, hd⟩ := excV_at I.hok ea
  have hx : ObjOk X.prog X.w H s.heap dd (.xd fs) := I.hok dd _ ed
  obtain ⟨mA, hns, hr⟩ := hx
  obtain ⟨od, ho, hl⟩ := lookIn_ns hns
  exact ⟨oe, od, mA, ⟨he, hz.1, by unfold PySem.W.notCls; rw [hd] <;> rfl, by rw [hz.2]; exact ho⟩, hr, hl⟩
theorem pe_xv {X : Cx} {e : Expr} {te : TE} {pos : Pos} {n : Str} (he : PE X e te) (hb : attributeBase e n X.env (eval e X.env) = eval e X.env := by rfl) : PE X (.Attribute e n pos) (tXv X.K n te) := by
  refine ⟨fun pins s σ H Q I h => ?_⟩
  refine attr_of hb (thn (he.run pins s σ H _ I h) fun u s1 hh => ?_)
  obtain ⟨x, H1, I1, rx, a, C, dd, fs, v, ex, ea, ed, T, hno, l, q⟩ := hh
  subst ex
  obtain rfl : u = Value.ref a := rx
  obtain ⟨oe, od, mA, J, hr, hl⟩ := excV_inst I1 ea ed
  obtain ⟨u, hu, ru⟩ := RelO.some_of (v := v) (o := mA n) (by rw [← l]; exact hr n)
  exact HandSPX.exc_get I1.kIn J T.ga T.gg T.exC (PySem.W.findObj_own T.hdC hno rfl (by rw [hl, hu])) (handed_of ru) ⟨v, H1, I1.tok _, ru, q⟩

/-! ### isinstance(e, C), e None or a held exception -/
def rIsX (K : PySem.W.Frag) : List V → Hp → VK → Prop := fun xs H Q => rIsi K xs H Q ∨ ∃ (a C dd D : Addr) (fs : List (Str × V)) (b : Bool), xs = [.ref a, .ref D] ∧ H a = some (ExcV (.ref C) (some dd) a) ∧ H dd = some (.xd fs) ∧ ExcC K C ∧ PySem.W.kitOne K (.ref C) (.ref D) = some b ∧ Q (.bl b) H
theorem call_isX {X : Cx} : CallR X (.builtin "isinstance") (rIsX X.K) := by
  intro pins s σ H xs us Q I r h
  rcases h with h | ⟨a, C, dd, D, fs, b, rfl, ea, ed, T, e, q⟩
  · exact call_isi pins s σ H xs us Q I r h
  · obtain ⟨u1, u2, rfl, r1, r2⟩ := vals2 r
    cases (show u1 = Value.ref a from r1)
    cases (show u2 = Value.ref D from r2)
    obtain ⟨oe, od, mA, J, _, _⟩ := excV_inst I ea ed
    have hcl : (PySem.W.clsIn X.K C).isSome = true := by
      obtain ⟨cd, hc, _⟩ := PySem.W.any_some T.hd
      rw [hc] <;> rfl
    exact PySem.W.kia_one (PySem.W.kitx_exc hcl T.hg T.hk T.hs T.ha T.hn T.ht T.hm) I.kIn J e (fun z => nomatch z) fun tk => ⟨.bl b, H, I.kept (t' := tk) fun _ _ z => z, rfl, q⟩
section
variable {K : PySem.W.Frag} {H : Hp} {Q : VK}
theorem r_isXn {D : Addr} (hk : PySem.W.kitOne K (.type "NoneType") (.ref D) = some false) (q : Q (.bl false) H) : rIsX K [.non, .ref D] H Q := .inl ⟨.non, .ref D, .type "NoneType", .ref D, false, rfl, .own D, .base .non, hk, q⟩
theorem r_isXe {a C dd D : Addr} {fs : List (Str × V)} {b : Bool} (ea : H a = some (ExcV (.ref C) (some dd) a)) (ed : H dd = some (.xd fs)) (T : ExcC K C) (hk : PySem.W.kitOne K (.ref C) (.ref D) = some b) (q : Q (.bl b) H) : rIsX K [.ref a, .ref D] H Q := .inr ⟨a, C, dd, D, fs, b, rfl, ea, ed, T, hk, q⟩
end

/-! ### raise C(e), the value kept -/
def spInit (K : PySem.W.Frag) : Sp := fun vs H Q _ => ∃ (a C : Addr) (v : V), vs = [.ref a, v] ∧ H a = some (exo a C none) ∧ OexC K C ∧ PySem.W.findIn K (.ref C) "value" = some none ∧ ∀ dx, H dx = none → dx ≠ a → Q .non (upd (upd H dx (exd dx [("value", v)])) a (exo a C (some dx)))
def ErrI (P : Program) (w : World) (K : PySem.W.Frag) (mg : Str → Option Value) (base : Heap) (fI : Addr) : Prop := ∃ fd, FnOk P w K mg base CX0 1 fI fd ["self", "value"] (spInit K) ∧ Binds K fd ["self", "value"] []
def errK (K : PySem.W.Frag) (C : Addr) (W : WX) (σ : L2.St) : List V → Hp → Prop := fun vs H1 => vs.length ≤ 1000 ∧ ∀ a, H1 a = none → spInit K (.ref a :: (vs ++ [])) (upd H1 a (exo a C none))
  (fun v H2 => v = .non ∧ ∃ (d : Addr) (fs : List (Str × V)), H2 a = some (exo a C (some d)) ∧ H2 d = some (exd d fs) ∧ H1 d = none ∧ W (.ref C) (some d) σ (upd (del H2 a) d (.xd fs))) (fun _ _ _ => False)
def tRz (K : PySem.W.Frag) (C : Addr) (W : WX) (ta : TA) : TS := fun _ σ H => ta σ H (errK K C W σ)
theorem ps_err {X : Cx} {x : Str} {C fI : Addr} {W : WX} {e : Expr} {te : TE} {j : Nat} {p pos pos2 : Pos} (T : ECls X.K C fI) (F : ErrI X.prog X.w X.K X.mg X.base fI) (hm : X.mg x = some (.ref C)) (hr : Room j X.A) (hc : X.calm = true) (tk : Takes X W) (hg : Gl X x) (he : PE X e te) (hj : 2 ≤ j := by decide)
    (hdb : (x == ("__debug__" : Str)) = false := by decide) (hs : starEach [e] X.env = (false, eval e X.env) :: starEach [] X.env := by rfl) : PS X (.Raise (some (.Call (.Name x p) [e] [] pos)) none pos2) (tRz X.K C W (tCons te tNil)) := by
  obtain ⟨fd, F1, b⟩ := F
  exact ps_raise hc tk (pmk_oex T.o T.ini T.tI F1 (hr.mono hj) b .nil pass0 hg hm (pa_cons he pa_nil hs) hdb hs (by rfl))
section
variable {K : PySem.W.Frag} {H : Hp} {σ : L2.St} {D : Ends} {W : WX} {C fI : Addr} {ta : TA}
theorem r_rz (h : ta σ H (errK K C W σ)) : tRz K C W ta D σ H := h
theorem err_of {v : V} (T : ECls K C fI) (h : ∀ d, H d = none → W (.ref C) (some d) σ (upd H d (.xd [("value", v)]))) : errK K C W σ [v] H := by
  refine ⟨by show 1 ≤ 1000; decide, fun a ha => ⟨a, C, v, rfl, upd_same, T.o, T.no, fun dx hd hne => ⟨rfl, dx, [("value", v)], upd_same, by rw [upd_ne hne, upd_same], ?_, ?_⟩⟩⟩
  · rw [← hd, upd_ne hne]
  · have hd' : H dx = none := by rw [← hd, upd_ne hne]
    have e : upd (del (upd (upd (upd H a (exo a C none)) dx (exd dx [("value", v)])) a (exo a C (some dx))) a) dx (.xd [("value", v)]) = upd H dx (.xd [("value", v)]) := by
      funext b
      by_cases h1 : b = dx
      · rw [h1, upd_same, upd_same]
      · rw [upd_ne h1, upd_ne h1]
        by_cases h2 : b = a
        · rw [h2, del_same, ha]
        · rw [del_ne h2, upd_ne h2, upd_ne h1, upd_ne h2]
    rw [e]
    exact h dx hd'
end

/-! ### a thing to be called without arguments, handed on -/
/-- f, known in the state s of the frames st: called later it reads as tl -/
structure Thk (P : Program) (w : World) (K : PySem.W.Frag) (mg : Str → Option Value) (base : Heap) (st : List Env) (s : Shared) (H : Hp) (k : Nat) (q : Str) (f c' : Addr) (tl : XK → Hp → VK → Prop) : Prop where
  obj : ∀ (s1 : Shared) (H1 : Hp), Un (frs st) [] H H1 s.heap s1.heap → PySem.W.FnAt f s1.heap
  run : ∀ (A : Around) (outer : List Env) (s1 : Shared) (H1 : Hp) (Q : VK) (E : XK), Room (k + 1) A → Env0 P w K mg base A outer s1 H1 → Un (frs st) [] H H1 s.heap s1.heap → H1 c' = some (CodeO c' q) → tl E H1 Q →
    codeAny (model P w) A (.call (.ref f) ⟨[], []⟩) (CR (L2.CX P w) outer P w H1 s1 Q E) s1
section
variable {X : Cx} {pins : List (Addr × Obj)} {σ : L2.St} {H : Hp} {s : Shared}
/-- a lambda just made is such a thing -/
theorem thk_of {f c' : Addr} {pm ctv : Value} {params : Arguments} {body : Expr} {scope : Scope} {k : Nat} {t : XK → TE} (I : Inv X pins σ H s) (L : LamS X.env.scope scope)
    (hf : s.heap.get? f = some (PySem.W.kla_obj "<lambda>" (X.env.qual ++ "<lambda>") params body scope (cloFrom X.env.cells scope.names []) pm c' ctv)) (hfn : H f = none) (hfr : f ∉ frs X.stack)
    (hbind : ∀ (q : Str) (cl : List (Str × Addr)) (pm cv ctv : Value), bindArgs (PySem.W.kla_fn "<lambda>" q params body scope cl pm cv ctv) ⟨[], []⟩ = pure [])
    (hbody : ∀ (A : Around) (outer : List Env) (s : Shared) (H : Hp) (E : XK), Room k (A.deeper (lamEnv X scope s.heap.objs.size f c')) → PE (lamCx X A outer s H E scope f c') body (t E)) :
    Thk X.prog X.w X.K X.mg X.base X.stack s H k (X.env.qual ++ "<lambda>") f c' (fun E H' Q' => t E σ H' Q') := by
  have look : ∀ (s1 : Shared) (H1 : Hp), Un (frs X.stack) [] H H1 s.heap s1.heap → s1.heap.get? f = some (PySem.W.kla_obj "<lambda>" (X.env.qual ++ "<lambda>") params body scope (cloFrom X.env.cells scope.names []) pm c' ctv) :=
    fun s1 H1 un => un.keep f _ hf hfn hfr (by simp)
  refine ⟨fun s1 H1 un => ⟨_, _, _, _, look s1 H1 un⟩, fun A outer s1 H1 Q E hr e0 un hc ht => ?_⟩
  obtain ⟨⟨oc, vs, tk, g1, g2, g3⟩, _⟩ := e0.hok c' _ hc
  refine PySem.W.kla_callFunE hr.depth (look s1 H1 un) rfl L.co L.gen rfl ⟨c', oc, vs, tk, rfl, g1, g2, g3⟩ ?_
  rw [hbind]
  refine wpAny_pure (wpAny_newFunctionEnv (fun y hy => (L.own y hy).2) (fun y hy => absurd hy (by simp)) (fun h₁ hns hsb => ⟨(e0.mod.nolimit.keeps fun b o e => (e0.bs b o e).1).fresh _ hsb, ?_⟩) L.kind)
  have kp : ∀ b o, s1.heap.get? b = some o → h₁.get? b = some o := fun b o e => hsb.extBut b o (Nat.ne_of_lt (Heap.lt_size e)) (Heap.get?_push_of_some _ e)
  have J := lam_start2 (E := E) (f := f) (c' := c') (tk := s1.toks + ([] : List (Str × Value)).length) I L e0 hr.hd un hns kp
  refine PySem.W.kla_codeExpr (wpAny_mono ((hbody A outer s1 H1 E (hr.deeper _)).run [] _ _ H1 Q J ht) (fun v s' hq => ?_) fun e s' hq => hq)
  obtain ⟨w', H', J', rv, q⟩ := hq
  exact ⟨w', H', J'.os, J'.bare, J'.base, J'.hok, rv, q⟩
/-- what changed since the entry, seen from the callers -/
theorem un_from (hex : X.ex = []) (I : Inv X pins σ H s) {H1 : Hp} {h1 : Heap} (un : Un (frs X.stack) [] H H1 s.heap h1) : Un X.fs [] X.H_0 H1 X.s_0.heap h1 := by
  have B : Un X.fs [] X.H_0 H X.s_0.heap s.heap := by
    have z := I.base
    rw [hex] at z
    exact z
  have nst : ∀ b o, X.s_0.heap.get? b = some o → b ∉ X.fs → b ∉ frs X.stack := fun b o e hb hm => by
    rcases List.mem_cons.mp (I.stkSub b hm) with z | z
    · have h1 := Heap.lt_size e
      have h2 := I.ok.above
      rw [z] at h1
      exact absurd (Nat.lt_of_lt_of_le h1 h2) (Nat.lt_irrefl _)
    · exact hb z
  refine ⟨fun b o e n hb hx => ?_, fun b o e n hb hx => ?_, fun b o e n hx => ?_, fun b o e hx => ?_, fun b xs e => un.tups b xs (B.tups b xs e), fun b o u e => un.frzs b o u (B.frzs b o u e), fun b ps e => ?_⟩
  · exact un.keep b o (B.keep b o e n hb hx) (B.free b o e n hx) (nst b o e hb) hx
  · obtain ⟨sl, z⟩ := B.slot b o e n hb hx
    obtain ⟨sl', z'⟩ := un.any z (B.free b o e n hx) hx
    exact ⟨sl', z'⟩
  · obtain ⟨o', z⟩ := B.there b o e hx
    exact un.free b o' z (B.free b o e n hx) hx
  · obtain ⟨o', z⟩ := B.there b o e hx
    exact un.there b o' z hx
  · obtain ⟨m1, z⟩ := B.tbls b ps e
    obtain ⟨m2, z'⟩ := un.tbls b _ z
    exact ⟨m1 ++ m2, by rw [z', Array.append_assoc]⟩
variable {k : Nat} {q : Str} {f c' : Addr} {tl : XK → Hp → VK → Prop}
/-- one frame further in -/
theorem Thk.on (T : Thk X.prog X.w X.K X.mg X.base X.outer X.s_0 X.H_0 k q f c' tl) (hex : X.ex = []) (I : Inv X pins σ H s) : Thk X.prog X.w X.K X.mg X.base X.stack s H k q f c' tl :=
  ⟨fun s1 H1 un => T.obj s1 H1 (un_from hex I un), fun A outer s1 H1 Q E hr e0 un => T.run A outer s1 H1 Q E hr e0 (un_from hex I un)⟩
def tThk (i : Nat) (f c' : Addr) (q : Str) (tl : XK → Hp → VK → Prop) (E : L2.St → XK) : TE := fun σ H Q => σ[i]? = some (some (.ref f)) ∧ H c' = some (CodeO c' q) ∧ tl (E σ) H Q
/-- a() -/
theorem pe_thk {i j : Nat} {a : Str} {E : L2.St → XK} {p1 p2 : Pos} (T : Thk X.prog X.w X.K X.mg X.base X.outer X.s_0 X.H_0 k q f c' tl) (hex : X.ex = []) (hr : Room j X.A) (hx : ∀ σ, PassesAt (L2.CX X.prog X.w) X σ (E σ)) (hN : X.N[i]? = some a) (hv : Vis X.env.scope a) (hj : k + 1 ≤ j)
    (hd : (a == ("__debug__" : Str)) = false := by decide) (hcd : (a == ("__classdict__" : Str)) = false := by decide) : PE X (.Call (.Name a p1) [] [] p2) (tThk i f c' q tl E) := by
  refine ⟨fun pins s σ H Q I h => ?_⟩
  obtain ⟨hs, hc, ht⟩ := h
  refine wpAny_Call_Name_kw (thn ((pe_var (pos := p1) (i := i) hN hv hd hcd).run pins s σ H (fun v H1 => v = .ref f ∧ H1 = H) I ⟨.ref f, hs, rfl, rfl⟩) fun u s1 ⟨v, H1, I1, r1, ev, eH⟩ => ?_)
  subst ev eH
  obtain rfl : u = Value.ref f := r1
  have T1 := T.on hex I1
  refine PySem.W.callWith_F0 (T1.obj s1 H1 Un.refl) (wpAny_call (codeAny_mono (T1.run X.A X.stack s1 H1 Q (E σ) (hr.mono hj) I1.env0 Un.refl hc ht) fun r s' hq => ?_))
  cases r with
  | error e => exact hx σ pins H1 s1 e s' I1 hq
  | ok fl => cases fl with
    | ret u => exact I1.after hq
    | _ => exact False.elim hq
end
/-- a def that gets such a thing first -/
abbrev SpT := (XK → Hp → VK → Prop) → Addr → Addr → Str → Sp
structure OkT (P : Program) (w : World) (K : PySem.W.Frag) (mg : Str → Option Value) (base : Heap) (CX : CXT) (gd : Around → Prop) (k kt : Nat) (x : Str) (st : Stmt) (ps : List Str) (sp : SpT) : Prop where
  ex : ∃ f fd, mg x = some (.ref f) ∧ FnP K x st f fd ∧ Binds K fd ps [] ∧
    ∀ (A : Around) (outer : List Env) (s : Shared) (H : Hp) (args : Args) (us : List Value) (vs : List V) (Q : VK) (E : XK) (q : Str) (g c' : Addr) (tl : XK → Hp → VK → Prop), gd A → Room k A → Env0 P w K mg base A outer s H → Thk P w K mg base outer s H kt q g c' tl →
      BindsTo s fd args (ps.zip us) → Vals vs us → vs.length = ps.length → sp tl g c' q vs H Q E → codeAny (model P w) A (.call (.ref f) args) (CR CX outer P w H s Q E) s
theorem okT_of {P : Program} {w : World} {K : PySem.W.Frag} {mg : Str → Option Value} {base : Heap} {CX : CXT} {gd : Around → Prop} {k kt : Nat} {x : Str} {st : Stmt} {N ps : List Str} {sp : SpT} {f : Addr} {fd : FuncData} (g : mg x = some (.ref f)) (D : FnP K x st f fd) (b : Binds K fd ps []) (S : FnScope N ps (defScope st))
    (hbody : ∀ (cdv : Value) (A : Around) (outer : List Env) (s : Shared) (H : Hp) (vs : List V) (Q : VK) (E : XK) (q : Str) (g c' : Addr) (tl : XK → Hp → VK → Prop), gd A → Thk P w K mg base outer s H kt q g c' tl → Room k (A.deeper (envOfC x (defScope st) s.heap.objs.size f cdv)) → sp tl g c' q vs H Q E →
      ∃ t, PSs (cxOf CX P w K mg base N x (defScope st) f cdv A outer s H E) (defBody st) t ∧ t { nx := fun _ H' => Q .non H', rt := Q } (start N vs) H) : OkT P w K mg base CX gd (k + 1) kt x st ps sp := by
  refine ⟨f, fd, g, D, b, fun A outer s H args us vs Q E q gf c' tl hgd hr e0 T hb r hl h => ?_⟩
  obtain ⟨oc, od, dV, kV, doc, pm, an, cdv, ct, osl, rfl, lk, hcd, _, _⟩ := D.ex
  exact run_ofS lk hcd S hr e0 hb r hl fun hr' => hbody cdv A outer s H vs Q E q gf c' tl hgd T hr' h
section
variable {X : Cx} {CX : CXT} {gd : Around → Prop} {k kt j : Nat} {x : Str} {st : Stmt} {ps : List Str} {sp : SpT} {E : XK} {q : Str} {g c' : Addr} {tl : XK → Hp → VK → Prop} {e : Expr} {es : List Expr} {t : TA} {p pos : Pos}
/-- x(a, ..), a such a thing that this def got itself -/
theorem pe_clT (F : OkT X.prog X.w X.K X.mg X.base CX gd k kt x st ps sp) (hgd : gd X.A) (T : Thk X.prog X.w X.K X.mg X.base X.outer X.s_0 X.H_0 kt q g c' tl) (hex : X.ex = []) (hr : Room j X.A) (hg : Gl X x) (hx : Passes CX X E) (ha : PA X (e :: es) t) (hlen : ∀ vs H Q E, sp tl g c' q vs H Q E → vs.length = ps.length) (hj : k ≤ j := by decide)
    (hdb : (x == ("__debug__" : Str)) = false := by decide) (he : starEach (e :: es) X.env = (false, eval e X.env) :: starEach es X.env := by rfl) (hpl : (backTo pos (starEach es X.env)).any (·.1) = false := by rfl) :
    PE X (.Call (.Name x p) (e :: es) [] pos) (tCall (sp tl g c' q) [] E t) := by
  obtain ⟨f, fd, gg, D, b, F⟩ := F.ex
  refine ⟨fun pins s σ H Q I h => ?_⟩
  refine wpAny_Call_Name_kw (ld_glob I hg gg ?_ hdb)
  refine PySem.W.callWith_K (h₀ := X.base) I.ok.mod.kin D.kp (thn (ha.run pos pins s σ H _ I h) fun us s1 ⟨vs, H1, I1, r, h1⟩ => ⟨I1.kIn, ?_⟩) he hpl
  have h1 : sp tl g c' q (vs ++ []) H1 Q E := h1
  rw [List.append_nil] at h1
  have hl := hlen _ _ _ _ h1
  have hb := b s1 us I1.kIn (by rw [List.append_nil, ← r.length]; exact hl)
  rw [List.append_nil] at hb
  refine wpAny_call (codeAny_mono (F X.A X.stack s1 H1 ⟨us, []⟩ us vs Q E q g c' tl hgd (hr.mono hj) I1.env0 (T.on hex I1) hb r hl h1) fun r s' hq => ?_)
  cases r with
  | error e => exact hx pins σ H1 s1 e s' I1 hq
  | ok fl => cases fl with
    | ret u => exact I1.after hq
    | _ => exact False.elim hq
/-- x(lambda: body, ..) -/
def tLamT (T : List (Addr × Str)) (q : Str) (sp : SpT) (tl : XK → TE) (E : XK) (ta : TA) : TE := fun σ H Q => Tabs T H ∧ ∀ (f c' : Addr) (H1 : Hp), ExtN H H1 → Tabs T H1 → H1 c' = some (CodeO c' q) →
  ta σ H1 fun vs H2 => H2 c' = some (CodeO c' q) ∧ sp (fun E H' Q' => tl E σ H' Q') f c' q (.ref f :: vs) H2 Q E
theorem pe_lamT {T : List (Addr × Str)} {c Pt : Addr} {params : Arguments} {body : Expr} {scope : Scope} {tb : XK → TE} {lpos : Pos} (F : OkT X.prog X.w X.K X.mg X.base CX gd k kt x st ps sp) (hgd : gd X.A) (hs : X.stack = X.env :: X.outer) (hfr : X.env.frame = some X.env.locals) (TB : TabB X.base X.mg c Pt) (hcode : X.env.code = .ref c)
    (hmT : (Pt, X.env.qual ++ "<lambda>") ∈ T) (hu : ∀ p ∈ T, p.1 = Pt → p.2 = X.env.qual ++ "<lambda>") (hr : Room j X.A) (hg : Gl X x) (hx : Passes CX X E) (L : LamS X.env.scope scope) (hdef : defaultsOf params X.env = ([], []))
    (hbind : ∀ (q : Str) (cl : List (Str × Addr)) (pm cv ctv : Value), bindArgs (PySem.W.kla_fn "<lambda>" q params body scope cl pm cv ctv) ⟨[], []⟩ = pure [])
    (hbody : ∀ (A : Around) (outer : List Env) (s : Shared) (H : Hp) (E : XK) (f c' : Addr), Room kt (A.deeper (lamEnv X scope s.heap.objs.size f c')) → PE (lamCx X A outer s H E scope f c') body (tb E))
    (ha : PA X es t) (hlen : ∀ tl g c' q vs H Q E, sp tl g c' q vs H Q E → vs.length = ps.length) (hj : k ≤ j := by decide)
    (hdb : (x == ("__debug__" : Str)) = false := by decide) (he : starEach (.Lambda params body scope lpos :: es) X.env = (false, eval (.Lambda params body scope lpos) X.env) :: starEach es X.env := by rfl) (hpl : (backTo pos (starEach es X.env)).any (·.1) = false := by rfl) :
    PE X (.Call (.Name x p) (.Lambda params body scope lpos :: es) [] pos) (tLamT T (X.env.qual ++ "<lambda>") sp tb E t) := by
  obtain ⟨f, fd, gg, D, b, F⟩ := F.ex
  refine ⟨fun pins s σ H Q I h => ?_⟩
  obtain ⟨hT, h⟩ := h
  refine wpAny_Call_Name_kw (ld_glob I hg gg ?_ hdb)
  refine PySem.W.callWith_K (h₀ := X.base) I.ok.mod.kin D.kp ?_ he hpl
  rw [he]
  show wpAny _ _ (spliced ((false, eval (.Lambda params body scope lpos) X.env) :: backTo pos (starEach es X.env))) _ _ s
  refine Calls.spliced_cons (lam_make2 I TB hcode hmT hu hT hdef (L.has I.ok) fun lf c' pm' ctv H1 s' I1 eN T1 hf hfn hfs hco => ?_)
  have nL : lf ≠ X.env.locals := fun z => hfs (List.mem_filterMap.mpr ⟨X.env, by rw [hs]; exact List.mem_cons_self, by rw [hfr, z]⟩)
  have nF : lf ∉ X.fs := fun hm => by
    obtain ⟨e, he, z⟩ := List.mem_filterMap.mp hm
    exact hfs (List.mem_filterMap.mpr ⟨e, by rw [hs]; exact List.mem_cons_of_mem _ he, z⟩)
  have I1' : Inv X ((lf, PySem.W.kla_obj "<lambda>" (X.env.qual ++ "<lambda>") params body scope (cloFrom X.env.cells scope.names []) pm' c' ctv) :: pins) σ H1 s' := ⟨I1.ok, I1.os, I1.bare, I1.base, I1.loc, I1.cell, I1.free, I1.freeC, fun p hp => by
    rcases List.mem_append.mp hp with z | z
    · exact I1.pin p (List.mem_append_left _ z)
    · rcases List.mem_cons.mp z with z | z
      · rw [z]
        exact ⟨hf, hfn, nL, nF, fun v z => nomatch z⟩
      · exact I1.pin p (List.mem_append_right _ z), I1.hok, I1.len⟩
  refine thn (ha.run pos _ s' σ H1 _ I1' (h lf c' H1 eN T1 hco)) fun us s2 ⟨vs, H2, I2, r, hc2, h2⟩ => ⟨I2.kIn, ?_⟩
  obtain ⟨hf2, hfn2, _⟩ := I2.pin _ (List.mem_append_right _ List.mem_cons_self)
  have I2' : Inv X pins σ H2 s2 := ⟨I2.ok, I2.os, I2.bare, I2.base, I2.loc, I2.cell, I2.free, I2.freeC, fun p hp => I2.pin p (by
    rcases List.mem_append.mp hp with z | z
    · exact List.mem_append_left _ z
    · exact List.mem_append_right _ (List.mem_cons_of_mem _ z)), I2.hok, I2.len⟩
  have TH := thk_of (t := tb) I2' L hf2 hfn2 hfs hbind fun A outer s H E hr2 => hbody A outer s H E lf c' hr2
  have hl := hlen _ _ _ _ _ _ _ _ h2
  have r' : Vals (V.ref lf :: vs) (Value.ref lf :: us) := .cons rfl r
  have hb := b s2 (Value.ref lf :: us) I2'.kIn (by rw [List.append_nil, ← r'.length]; exact hl)
  rw [List.append_nil] at hb
  refine wpAny_call (codeAny_mono (F X.A X.stack s2 H2 ⟨Value.ref lf :: us, []⟩ (Value.ref lf :: us) (V.ref lf :: vs) Q E _ lf c' _ hgd (hr.mono hj) I2'.env0 TH hb r' hl h2) fun r s' hq => ?_)
  cases r with
  | error e => exact hx pins σ H2 s2 e s' I2' hq
  | ok fl => cases fl with
    | ret u => exact I2'.after hq
    | _ => exact False.elim hq
end

/-! ### defs that hold lambdas: their code objects, the tables of these -/
/-- the rule for such a def -/
theorem okC {P : Program} {w : World} {K : PySem.W.Frag} {mg : Str → Option Value} {base : Heap} {CX : CXT} {k : Nat} {x : Str} {st : Stmt} {N ps : List Str} {sp : Sp} {fd : FuncData} (D : FnP K x st (He.ga K x) fd) (S : FnScope N ps (defScope st)) (len : ∀ vs H Q E, sp vs H Q E → vs.length = ps.length)
    (hbody : ∀ (cdv : Value) (A : Around) (outer : List Env) (s : Shared) (H : Hp) (vs : List V) (Q : VK) (E : XK), cdv = .ref (He.cT K (x, none)).1 → Room k (A.deeper (envOfC x (defScope st) s.heap.objs.size (He.ga K x) cdv)) → sp vs H Q E →
      ∃ t, PSs (cxOf CX P w K mg base N x (defScope st) (He.ga K x) cdv A outer s H E) (defBody st) t ∧ t { nx := fun _ H' => Q .non H', rt := Q } (start N vs) H) : FnOk P w K mg base CX (k + 1) (He.ga K x) fd ps sp := by
  obtain ⟨oc, od, dV, kV, doc, pm, an, cdv, ct, osl, rfl, lk, hcd, _, _⟩ := D.ex
  obtain ⟨c, rfl⟩ := He.codeIn_ref hcd
  have ec : He.codeOf K (x, none) = c := He.codeOf_eq (p := (x, none)) lk rfl
  exact fn_of lk hcd S len fun A outer s H vs Q E hr hsp => hbody (.ref c) A outer s H vs Q E (by rw [← ec] <;> rfl) hr hsp
/-- the tables of these defs, the lambda's qualified name -/
def tabs (K : PySem.W.Frag) (tf : List He.Defn) : List (Addr × Str) := tf.map fun p => ((He.cT K p).2, (p.1 ++ ".<locals>.") ++ "<lambda>")
theorem tabs_mem {K : PySem.W.Frag} {tf : List He.Defn} {p : He.Defn} (h : p ∈ tf) : ((He.cT K p).2, (p.1 ++ ".<locals>.") ++ "<lambda>") ∈ tabs K tf := List.mem_map.mpr ⟨p, h, rfl⟩
/-- no two of them share a table -/
def apartB (K : PySem.W.Frag) (tf : List He.Defn) : Bool := tf.all fun p => tf.all fun q => !decide ((He.cT K q).2 = (He.cT K p).2) || decide (q.1 = p.1)
theorem apart_ok {K : PySem.W.Frag} {tf : List He.Defn} (h : apartB K tf = true) {p : He.Defn} (hp : p ∈ tf) : ∀ r ∈ tabs K tf, r.1 = (He.cT K p).2 → r.2 = (p.1 ++ ".<locals>.") ++ "<lambda>" := fun r hr e => by
  obtain ⟨q, hq, rfl⟩ := List.mem_map.mp hr
  have z := List.all_eq_true.mp (List.all_eq_true.mp h p hp) q hq
  have e : (He.cT K q).2 = (He.cT K p).2 := e
  rw [decide_eq_true e] at z
  have z2 : q.1 = p.1 := of_decide_eq_true (by simpa using z)
  show (q.1 ++ ".<locals>.") ++ "<lambda>" = _
  rw [z2]
/-- what the defs of tf know of the heap at the bottom -/
def TBs (K : PySem.W.Frag) (mg : Str → Option Value) (base : Heap) (tf : List He.Defn) : Prop := ∀ p ∈ tf, TabB base mg (He.cT K p).1 (He.cT K p).2
theorem lawAt_of {l : PySem.W.OpenLaw} {w : World} {K : PySem.W.Frag} {CX : CXT} {k n : Nat} {x : Str} {mg : Str → Option Value} {fa : Addr} {h : Heap} {fl : List He.Fa} {fn : List He.DefD} {tf : List He.Defn} {ex : PySem.W.Frag → Bool} {fd : FuncData} {sp : Sp} (KX : K.In h) (c : He.SaysX fl fn [] tf ex w h K)
    (hb : ∀ (s : Shared) (u : Value), BindsTo s fd ⟨[u], []⟩ [(x, u)])
    (hsp : ∀ (H : Hp) (a : Addr) (ns : List Int), ns.length ≤ n → Tabs (tabs K tf) H → SqL K H a (ns.map V.int) → sp [.ref a] H (fun v _ => v = .bl true) fun _ _ _ => False)
    (F : ∀ base : Heap, K.In base → base.Ns mainGlobals mg → TBs K mg base tf → FnOk l.prog w K mg base CX k fa fd [x] sp) : LawAtS l w K CX k n x mg fa h := by
  have fw : ∀ {φ : Addr × Addr → Prop}, (∀ p ∈ tf, φ (He.cT K p)) → ∀ q ∈ tf.map (He.cT K), φ q := fun h q hq => by
    obtain ⟨p, hp, rfl⟩ := List.mem_map.mp hq
    exact h p hp
  refine ⟨fd, tf.map (He.cT K), sp, fw c.empty, fw c.out, fw fun p hp => PySem.W.codeHd_of_K KX (c.hd p hp), hb, fun H a ns hl _ hH hS => hsp H a ns hl (fun r hr => ?_) hS, fun base hK hN hT => F base hK hN fun p hp => hT _ (List.mem_map.mpr ⟨p, hp, rfl⟩)⟩
  obtain ⟨p, hp, rfl⟩ := List.mem_map.mp hr
  exact TabS.nil (hH _ (List.mem_map.mpr ⟨p, hp, rfl⟩))

/-! ### short words -/
def clsMeth (st : Stmt) (j : Nat) : Stmt := match st with
  | .ClassDef (body := b) .. => b.getD j (.Pass ⟨0, 0, 0, 0⟩)
  | _ => .Pass ⟨0, 0, 0, 0⟩
theorem TBs.at {K : PySem.W.Frag} {mg : Str → Option Value} {base : Heap} {tf : List He.Defn} (t : TBs K mg base tf) {p : He.Defn} (h : p ∈ tf) : TabB base mg (He.cT K p).1 (He.cT K p).2 := t p h
section
variable {K : PySem.W.Frag} {H H1 H2 : Hp} {Q : VK} {σ : L2.St} {D : Ends} {te : TE} {ta : TA}
theorem r_xv {n : Str} (h : te σ H fun x H1 => ∃ (a C dd : Addr) (fs : List (Str × V)) (v : V), x = .ref a ∧ H1 a = some (ExcV (.ref C) (some dd) a) ∧ H1 dd = some (.xd fs) ∧ XfC K C ∧ PySem.W.findIn K (.ref C) n = some none ∧ fs.lookup n = some v ∧ Q v H1) : tXv K n te σ H Q := h
theorem r_lamT {T : List (Addr × Str)} {q : Str} {sp : SpT} {tl : XK → TE} {E : XK} (hT : Tabs T H) (h : ∀ (f c' : Addr) (H1 : Hp), ExtN H H1 → Tabs T H1 → H1 c' = some (CodeO c' q) → ta σ H1 fun vs H2 => H2 c' = some (CodeO c' q) ∧ sp (fun E H' Q' => tl E σ H' Q') f c' q (.ref f :: vs) H2 Q E) : tLamT T q sp tl E ta σ H Q := ⟨hT, h⟩
theorem r_thk {i : Nat} {f c' : Addr} {q : Str} {tl : XK → Hp → VK → Prop} {E : L2.St → XK} (h1 : σ[i]? = some (some (.ref f))) (h2 : H c' = some (CodeO c' q)) (h : tl (E σ) H Q) : tThk i f c' q tl E σ H Q := ⟨h1, h2, h⟩
theorem r_asV {tb : WX → TS} {c : Value} {i : Nat} {ts : Addr → Value → Option Addr → TS} {Wout : WX} (h : tb (wAsV K c i ts Wout D) D σ H) : (fun D σ H => tb (wAsV K c i ts Wout D) D σ H) D σ H := h
/-- all but the tables stays: lists, tuples -/
theorem extN_sqt {a : Addr} {xs : List V} (e : ExtN H H1) (h : SqT K H a xs) : SqT K H1 a xs := by
  rcases h with h | h
  · rcases h with h | ⟨o, h⟩
    · exact .inl (.inl (e _ _ h fun ps z => nomatch z))
    · exact .inl (.inr ⟨o, e _ _ h fun ps z => nomatch z⟩)
  · exact .inr h
theorem extN_sql {a : Addr} {xs : List V} (e : ExtN H H1) (h : SqL K H a xs) : SqL K H1 a xs := by
  rcases h with h | h
  · rcases h with h | ⟨o, h⟩
    · exact .inl (.inl (e _ _ h fun ps z => nomatch z))
    · exact .inl (.inr ⟨o, e _ _ h fun ps z => nomatch z⟩)
  · exact .inr h
/-- all but the tables and one object -/
def ButT (a : Addr) (H H' : Hp) : Prop := ∀ b o, b ≠ a → H b = some o → (∀ ps, o ≠ .tbl ps) → H' b = some o
variable {a : Addr}
theorem ButT.refl : ButT a H H := fun _ _ _ h _ => h
theorem ButT.trans (x : ButT a H H1) (y : ButT a H1 H2) : ButT a H H2 := fun b o n h t => y b o n (x b o n h t) t
theorem ButT.ofB (x : But a H H1) : ButT a H H1 := fun b o n h _ => x b o n h
theorem ButT.ofN (x : ExtN H H1) : ButT a H H1 := fun b o _ h t => x b o h t
theorem ButT.of (x : Same H H1) : ButT a H H1 := fun b o _ h _ => x b o h
theorem tabs_but {T : List (Addr × Str)} (t : Tabs T H) (x : But a H H1) (h : ∀ ps, H a ≠ some (.tbl ps)) (h2 : ∀ c q, H a ≠ some (CodeO c q)) : Tabs T H1 := fun p hp => by
  obtain ⟨ps, h1, h3, h4⟩ := t p hp
  refine ⟨ps, x _ _ (fun z => h ps (z ▸ h1)) h1, h3, fun pos cv hc => ?_⟩
  obtain ⟨c, e1, e2⟩ := h4 pos cv hc
  exact ⟨c, e1, x _ _ (fun z => h2 c p.2 (z ▸ e2)) e2⟩
theorem codeO_lst {c : Addr} {q : Str} {xs : List V} : CodeO c q ≠ .lst xs := fun z => by
  unfold CodeO at z
  cases z
theorem tabs_pot {T : List (Addr × Str)} {c : Int} (t : Tabs T H) (P : PotAt H a c) (x : But a H H1) : Tabs T H1 := by
  obtain ⟨o, sd, n, e, _⟩ := P
  exact tabs_but t x (fun ps z => by rw [e] at z; cases z) fun c q z => by rw [e] at z; exact codeO_lst (Option.some.inj z).symm
theorem PotAt.extN {c : Int} (P : PotAt H a c) (x : ExtN H H1) : PotAt H1 a c := by
  obtain ⟨o, sd, n, e, r⟩ := P
  exact ⟨o, sd, n, x _ _ e (fun ps z => nomatch z), r⟩
theorem tabs_same {T : List (Addr × Str)} (t : Tabs T H) (e : Same H H1) : Tabs T H1 := t.ext e
theorem extN_same (e : Same H H1) : ExtN H H1 := fun b o h _ => e b o h
end
theorem inV_two {x a b : List Nat} : inV (.str (S x)) [.str (S a), .str (S b)] = (decide (x = a) || decide (x = b)) := by
  show ((S a == S x) || ((S b == S x) || false)) = _
  rw [S_beq, S_beq, Bool.or_false, decide_eq_decide.mpr (eq_comm (a := a)), decide_eq_decide.mpr (eq_comm (a := b))]
theorem r_in2 {K : PySem.W.Frag} {H : Hp} {Q : VK} {p : Addr} {x a b : List Nat} (hs : SqT K H p [.str (S a), .str (S b)]) (q : Q (.bl (decide (x = a) || decide (x = b))) H) : rIn K false (.str (S x)) (.ref p) H Q :=
  ⟨p, _, rfl, .inr hs, rfl, rfl, by rw [inV_two]; exact q⟩
theorem r_endV {i : Nat} {a : Addr} {cls : Value} {d : Option Addr} {D : Ends} {σ : L2.St} {H : Hp} (h : D.nx (σ.set i none) (upd H a (ExcV cls d a))) : (endV i a cls d D).nx σ H := h
theorem ExtN.mut {H H1 : Hp} {p : Addr} {o : HO} (e : ExtN H H1) (h : H p = none) : ExtN H (upd H1 p o) := fun b u q n => by
  rw [upd_ne (ne_of_none q h)]
  exact e b u q n
theorem tabs_mut {T : List (Addr × Str)} {H : Hp} {D : Addr} {xs : List V} {o : HO} (t : Tabs T H) (h : H D = some (.lst xs)) : Tabs T (upd H D o) :=
  tabs_but t (a := D) (fun b u n q => by rw [upd_ne n]; exact q) (fun ps z => by rw [h] at z; cases z) fun c q z => by rw [h] at z; exact codeO_lst (Option.some.inj z).symm
theorem tabs_new {T : List (Addr × Str)} {H : Hp} {p : Addr} {o : HO} (t : Tabs T H) (h : H p = none) : Tabs T (upd H p o) := t.ext (same_new h)
theorem wd_rep {n c : Nat} (h : c = 110 ∨ c = 102 ∨ c = 115) : Wd (List.replicate n c) := fun x hx => by rw [(List.mem_replicate.mp hx).2]; exact h
theorem wd_seg {h r : List Nat} {a n : Nat} (r0 : 0 < r.length) (wh : Wd h) (wr : Wd r) : Wd (seg (rw h r) a n) := fun c hc => by
  obtain ⟨j, _, rfl⟩ := List.mem_map.mp hc
  by_cases e : a + j < h.length
  · rw [rw_lt e, List.getD_eq_getElem?_getD, List.getElem?_eq_getElem e]
    exact wh _ (List.getElem_mem e)
  · rw [rw_ge (by omega)]
    have e2 : (a + j - h.length) % r.length < r.length := Nat.mod_lt _ r0
    rw [List.getD_eq_getElem?_getD, List.getElem?_eq_getElem e2]
    exact wr _ (List.getElem_mem e2)
theorem all_at {l : List Bool} (h : l.all id = true) (i : Nat) {b : Bool} (e : l[i]? = some b) : b = true := List.all_eq_true.mp h b (List.mem_of_getElem? e)
end Tf

set_option Elab.async false
set_option linter.all false
set_option maxRecDepth 100000
set_option maxHeartbeats 2000000
/-! defs that are called where nothing is being shown: repr of data -/
namespace Tf
open PySem PySem.Spec PyProof.Rows L2 LamX

/-! ### the bottom of a law -/
/-- what the law's def may lean on where it is called -/
structure Bottom (P : Program) (w : World) (K : PySem.W.Frag) (mg : Str → Option Value) (cs : List (Addr × Addr)) (a : Addr) (ns : List Int) (s : Shared) (base : Heap) (H : Hp) : Prop where
  env : Env0 P w K mg base callerA [] s H
  tabs : ∀ p ∈ cs, TabB base mg p.1 p.2
  emp : ∀ p ∈ cs, H p.2 = some (.tbl #[])
  scr : SqL K H a (ns.map V.int)
section
variable {P : Program} {w : World} {K : PySem.W.Frag} {mg mb : Str → Option Value} {cs : List (Addr × Addr)} {a fa : Addr} {vs : List Value} {ns : List Int} {s : Shared}
theorem bottomed (KX : K.In s.heap) (hG : s.heap.Ns mainGlobals mg) (hB : s.heap.Ns builtinsNs mb) (hbb : ∀ x : Str, x ≠ "__name__" → mb x = bootBuiltins x) (hlim : s.heap.NoLimit) (hg : s.gens = #[])
    (hT : ∀ p ∈ cs, s.heap.get? p.2 = some { cls := .none, data := .fields #[] }) (nT : ∀ p ∈ cs, K.lookup p.2 = none) (hC : ∀ p ∈ cs, PySem.W.CodeHd s.heap p.1 p.2)
    (hM : ∃ (bm : Addr) (ob : Obj), mg "__builtins__" = some (.ref bm) ∧ bm ≠ builtinsNs ∧ s.heap.get? bm = some ob ∧ ob.cls = .type "module" ∧ ob.dict = some builtinsNs ∧ ob.data = .plain)
    (ha : s.heap.get? a = some { cls := .type "list", data := .seq vs.toArray }) (hi : IntsAre vs ns) (hl : ns.length ≤ sizeLine)
    (F : ∀ base H, Bottom P w K mg cs a ns s base H → codeAny (model P w) callerA (.call (.ref fa) ⟨[.ref a], []⟩) (CR CX0 [] P w H s (fun v _ => v = .bl true) E0) s) :
    codeAny (model P w) callerA (.call (.ref fa) ⟨[.ref a], []⟩) (fun r s' => r = .ok (.ret (.bool true)) ∧ OldK s.heap s'.heap ∧ s'.os = s.os ∧ AllBare s'.gens) s := by
  have rv := vals_ints hi
  have atT : ∀ b ∈ cs.map (·.2), s.heap.get? b = some { cls := .none, data := .fields #[] } := fun b hb => by
    obtain ⟨p, hp, rfl⟩ := List.mem_map.mp hb
    exact hT p hp
  have inT : ∀ p ∈ cs, p.2 ∈ cs.map (·.2) := fun p hp => List.mem_map.mpr ⟨p, hp, rfl⟩
  have aT : a ∉ cs.map (·.2) := fun z => by
    have e := ha.symm.trans (atT a z)
    simp at e
  -- the script is tracked, or it stands in the written part
  have go : ∀ tr : Bool, (tr = true → K.lookup a = none) → (tr = false → SqL K (fun b => if b ∈ cs.map (·.2) then some (.tbl #[]) else none) a (ns.map V.int)) →
      codeAny (model P w) callerA (.call (.ref fa) ⟨[.ref a], []⟩) (fun r s' => r = .ok (.ret (.bool true)) ∧ OldK s.heap s'.heap ∧ s'.os = s.os ∧ AllBare s'.gens) s := by
    intro tr htr hns
    obtain ⟨H, eH⟩ : ∃ H : Hp, H = fun b => if tr = true ∧ b = a then some (.frz { cls := .type "list", data := .seq vs.toArray } (.lst (ns.map V.int))) else if b ∈ cs.map (·.2) then some (.tbl #[]) else none := ⟨_, rfl⟩
    have H1 : tr = true → H a = some (.frz { cls := .type "list", data := .seq vs.toArray } (.lst (ns.map V.int))) := fun e => by rw [eH]; exact if_pos ⟨e, rfl⟩
    have H2 : ∀ b ∈ cs.map (·.2), H b = some (.tbl #[]) := fun b hb => by
      rw [eH]
      show (if tr = true ∧ b = a then _ else _) = _
      rw [if_neg (show ¬ (tr = true ∧ b = a) from fun z => aT (by rw [← z.2]; exact hb)), if_pos hb]
    have H3 : ∀ b, b ∉ cs.map (·.2) → ¬ (tr = true ∧ b = a) → H b = none := fun b h1 h2 => by
      rw [eH]
      show (if tr = true ∧ b = a then _ else _) = _
      rw [if_neg h2, if_neg h1]
    clear eH
    -- whatever is neither a list nor empty fields is not tracked
    have un : ∀ {b : Addr} {o : Obj}, s.heap.get? b = some o → (∀ xs n, o.data ≠ .seq xs n) → o.data ≠ .fields #[] → H b = none := fun {b o} e h1 h2 => by
      refine H3 b (fun z => ?_) fun z => ?_
      · rw [atT b z] at e
        cases e
        exact h2 rfl
      · rw [z.2, ha] at e
        cases e
        exact h1 _ _ rfl
    have low : ∀ {b : Addr} {o : Obj}, s.heap.get? b = some o → (∀ xs n, o.data ≠ .seq xs n) → o.data ≠ .fields #[] → (hidT s.heap H).get? b = some o := fun e h1 h2 => hidT_get e (un e h1 h2)
    have nsL : ∀ {b : Addr} {m : Str → Option Value}, s.heap.Ns b m → (hidT s.heap H).Ns b m := fun {b m} ⟨o, es, ep, e, d, r⟩ => ⟨o, es, ep, low e (fun xs n z => by rw [d] at z; cases z) (fun z => by rw [d] at z; cases z), d, r⟩
    have kIn : K.In (hidT s.heap H) := fun b o e => hidT_get (KX b o e) (H3 b (fun z => by
      obtain ⟨p, hp, rfl⟩ := List.mem_map.mp z
      rw [nT p hp] at e
      cases e) fun z => by
      rw [z.2, htr z.1] at e
      cases e)
    have hok : HOk P w H s.heap := fun b u e => by
      by_cases h1 : tr = true ∧ b = a
      · obtain ⟨t, rfl⟩ := h1
        rw [H1 t] at e
        cases e
        exact ⟨ha, by rw [List.length_map]; exact hl, vs, _, rv, ha⟩
      · by_cases h2 : b ∈ cs.map (·.2)
        · rw [H2 b h2] at e
          cases e
          exact atT b h2
        · rw [H3 b h2 h1] at e
          cases e
    have tb : ∀ p ∈ cs, TabB (hidT s.heap H) mg p.1 p.2 := fun p hp => by
      refine ⟨?_, ?_, fun z => ?_⟩
      · obtain ⟨o, us, file, tf, flags, tg, inF, text, tt, e, c1, c2, c3, r⟩ := hC p hp
        refine ⟨o, us, file, tf, flags, tg, inF, text, tt, low e (fun xs n z => by rw [c2] at z; cases z) (fun z => ?_), c1, c2, c3, r⟩
        rw [c2] at z
        cases z
        simp at c3
      · obtain ⟨bm, ob, m1, m2, m3, m4, m5, m6⟩ := hM
        refine ⟨bm, ob, m1, m2, fun z => ?_, fun z => ?_, low m3 (fun xs n z => by rw [m6] at z; cases z) (fun z => by rw [m6] at z; cases z), m4, m5, m6⟩
        · obtain ⟨o, es, ep, e, d, _⟩ := hG
          rw [z, e] at m3
          cases m3
          rw [d] at m6
          cases m6
        · rw [z, hT p hp] at m3
          cases m3
          cases m6
      · obtain ⟨o, es, ep, e, d, _⟩ := hG
        rw [z, hT p hp] at e
        cases e
        cases d
    have e0 : Env0 P w K mg (hidT s.heap H) callerA [] s H := ⟨rfl, ⟨kIn, nsL hG, ⟨mb, nsL hB, hbb⟩, hlim.imp fun m h => ⟨nsL h.1, h.2⟩⟩, fun b o e => of_hidT e, Nat.le_of_eq (hidT_size _ _), trivial, fun b hb => absurd (show b ∈ ([] : List Addr) from hb) (by simp), hok, .of_eq hg⟩
    have scr : SqL K H a (ns.map V.int) := by
      cases tr with
      | true => exact .inl (.inr ⟨_, H1 rfl⟩)
      | false =>
        rcases hns rfl with (z | ⟨o, z⟩) | z
        · cases (if_neg aT).symm.trans z
        · cases (if_neg aT).symm.trans z
        · exact .inr z
    refine codeAny_mono (F _ H ⟨e0, tb, fun p hp => H2 _ (inT p hp), scr⟩) fun r s' h => ?_
    cases r with
    | error e => exact False.elim h
    | ok fl => cases fl with
      | ret u =>
        obtain ⟨v, H', os, bare, un', hok', r', q⟩ := h
        have q : v = .bl true := q
        subst q
        obtain rfl : u = Value.bool true := r'
        have more : ∀ p ∈ cs, ∃ m : Array Value, s'.heap.get? p.2 = some { cls := .none, data := .fields m } := fun p hp => by
          obtain ⟨m, z⟩ := un'.tbls p.2 #[] (H2 _ (inT p hp))
          exact ⟨_, hok' p.2 _ z⟩
        have same : ∀ b o, b ∉ cs.map (·.2) → s.heap.get? b = some o → s'.heap.get? b = some o := fun b o nb e => by
          by_cases h1 : tr = true ∧ b = a
          · obtain ⟨t, rfl⟩ := h1
            obtain ⟨z, _⟩ := hok' b _ (un'.frzs b _ _ (H1 t))
            rw [ha] at e
            cases e
            exact z
          · exact un'.keep b o e (H3 b nb h1) (fun z => absurd (show b ∈ ([] : List Addr) from z) (by simp)) (by simp)
        refine ⟨rfl, ⟨fun b o e => ?_, fun b o e => ?_⟩, os, bare⟩
        · by_cases hb : b ∈ cs.map (·.2)
          · obtain ⟨p, hp, rfl⟩ := List.mem_map.mp hb
            obtain ⟨m, hm⟩ := more p hp
            rw [hT p hp] at e
            cases e
            exact .inr (.inl ⟨((hC p hp).tab (hT p hp)).isCodeTable, rfl, #[], m, rfl, by rw [Array.empty_append]; exact hm⟩)
          · exact .inl (same b o hb e)
        · by_cases hb : b ∈ cs.map (·.2)
          · obtain ⟨p, hp, rfl⟩ := List.mem_map.mp hb
            obtain ⟨m, hm⟩ := more p hp
            exact ⟨_, hm⟩
          · exact ⟨o, same b o hb e⟩
      | _ => exact False.elim h
  cases hk : K.lookup a with
  | none => exact go true (fun _ => hk) fun z => nomatch z
  | some o =>
    have e := KX a o hk
    rw [ha] at e
    cases e
    exact go false (fun z => nomatch z) fun _ => .inr ⟨_, vs.toArray, _, hk, rfl, rfl, rfl, by rw [List.size_toArray, hi.length]; exact hl, by simpa using rv⟩
end

/-! ### data -/
def keyD : Key → PyData
  | .inl i => .int i
  | .inr x => .str x
def okPts (z : Str) : Prop := ∀ c ∈ z.cps.toList, c < 16 ^ 8
def KeyOk : Key → Prop
  | .inl i => i.natAbs.log2 < 1920
  | .inr x => okPts x
mutual
/-- x is the data d -/
def Dat (K : PySem.W.Frag) (z0 : Addr) (H : Hp) : PyData → V → Prop
  | .none, x => x = .non
  | .bool b, x => x = .bl b
  | .int i, x => x = .int i ∧ i.natAbs.log2 < 1920
  | .str z, x => x = .str z ∧ okPts z
  | .list ds, x => ∃ a xs, x = .ref a ∧ a ≠ z0 ∧ SqL K H a xs ∧ DatL K z0 H ds xs
  | .tuple ds, x => ∃ a xs, x = .ref a ∧ SqT K H a xs ∧ DatL K z0 H ds xs
  | .dict kvs, x => ∃ a ps, x = .ref a ∧ H a = some (.dK ps) ∧ DatK K z0 H kvs ps
def DatL (K : PySem.W.Frag) (z0 : Addr) (H : Hp) : List PyData → List V → Prop
  | [], xs => xs = []
  | d :: ds, xs => ∃ x r, xs = x :: r ∧ Dat K z0 H d x ∧ DatL K z0 H ds r
def DatK (K : PySem.W.Frag) (z0 : Addr) (H : Hp) : List (PyData × PyData) → List (Key × V) → Prop
  | [], ps => ps = []
  | (k, d) :: kvs, ps => ∃ kk x r, ps = (kk, x) :: r ∧ k = keyD kk ∧ KeyOk kk ∧ Dat K z0 H d x ∧ DatK K z0 H kvs r
end
mutual
def noList : PyData → Bool
  | .none | .bool _ | .int _ | .str _ => true
  | .list _ => false
  | .tuple ds => noListL ds
  | .dict kvs => noListK kvs
def noListL : List PyData → Bool
  | [] => true
  | d :: ds => noList d && noListL ds
def noListK : List (PyData × PyData) → Bool
  | [] => true
  | (k, d) :: r => noList k && (noList d && noListK r)
end
mutual
/-- how long its text is at most -/
def cap : PyData → Nat
  | .none | .bool _ => 5
  | .int _ => 1921
  | .str z => 10 * z.length + 2
  | .list ds => capL ds + 2
  | .tuple ds => capL ds + 3
  | .dict kvs => capK kvs + 2
def capL : List PyData → Nat
  | [] => 0
  | d :: ds => cap d + 2 + capL ds
def capK : List (PyData × PyData) → Nat
  | [] => 0
  | (k, d) :: r => cap k + cap d + 4 + capK r
end
section
variable {X : Cx} {pins : List (Addr × Obj)} {σ : L2.St} {H : Hp} {s : Shared} {z0 : Addr}
mutual
theorem dat_reads (I : Inv X pins σ H s) : ∀ (d : PyData) {x : V} {u : Value}, Dat X.K z0 H d x → RelV x u → ∃ as, Reads s.heap u d as ∧ (noList d = true → sysModules ∉ as)
  | .none, x, u, h, r => by
    unfold Dat at h
    subst h
    cases r
    exact ⟨[], .none, fun _ z => nomatch z⟩
  | .bool b, x, u, h, r => by
    unfold Dat at h
    subst h
    cases r
    exact ⟨[], .bool b, fun _ z => nomatch z⟩
  | .int i, x, u, h, r => by
    unfold Dat at h
    obtain ⟨rfl, _⟩ := h
    obtain ⟨t, rfl⟩ := r
    exact ⟨[], .int i t, fun _ z => nomatch z⟩
  | .str z, x, u, h, r => by
    unfold Dat at h
    obtain ⟨rfl, _⟩ := h
    obtain ⟨t, rfl⟩ := r
    exact ⟨[], .str z t, fun _ z => nomatch z⟩
  | .list ds, x, u, h, r => by
    unfold Dat at h
    obtain ⟨a, xs, rfl, _, hs, hd⟩ := h
    obtain rfl : u = Value.ref a := r
    obtain ⟨its, rv, ⟨o, n, e, c, _, d⟩, _⟩ := I.list hs
    obtain ⟨as, ra, _⟩ := datL_reads I ds hd rv
    exact ⟨a :: as, .list e c d (by simpa using ra), fun z => by unfold noList at z; cases z⟩
  | .tuple ds, x, u, h, r => by
    unfold Dat at h
    obtain ⟨a, xs, rfl, hs, hd⟩ := h
    obtain rfl : u = Value.ref a := r
    obtain ⟨its, rv, ⟨o, e, c, n, d⟩, _⟩ := I.tuple hs
    obtain ⟨as, ra, ns⟩ := datL_reads I ds hd rv
    exact ⟨as, .tuple e c d (by simpa using ra), fun z => ns (by unfold noList at z; exact z)⟩
  | .dict kvs, x, u, h, r => by
    unfold Dat at h
    obtain ⟨a, ps, rfl, hs, hd⟩ := h
    obtain rfl : u = Value.ref a := r
    obtain ⟨_, hsys, vs, kv, o, es, ep, e, ex, d, ks, pr, _⟩ := (show ObjOk X.prog X.w H s.heap a (.dK ps) from I.hok a _ hs)
    obtain ⟨bs, b1, b2, n2⟩ := datK_reads I kvs hd kv pr
    refine ⟨a :: [] ++ bs, .dict e ex.1 d b1 b2, fun z => ?_⟩
    unfold noList at z
    intro m
    rcases List.mem_cons.mp m with m | m
    · rw [m] at hsys
      simp at hsys
    · exact n2 z m
theorem datL_reads (I : Inv X pins σ H s) : ∀ (ds : List PyData) {xs : List V} {us : List Value}, DatL X.K z0 H ds xs → Vals xs us → ∃ as, ReadsAll s.heap us ds as ∧ (noListL ds = true → sysModules ∉ as)
  | [], xs, us, h, r => by
    unfold DatL at h
    subst h
    cases r
    exact ⟨[], .nil, fun _ z => nomatch z⟩
  | d :: ds, xs, us, h, r => by
    unfold DatL at h
    obtain ⟨x, r', rfl, h1, h2⟩ := h
    cases r with
    | cons r1 r2 =>
      obtain ⟨as, a1, n1⟩ := dat_reads I d h1 r1
      obtain ⟨bs, a2, n2⟩ := datL_reads I ds h2 r2
      refine ⟨as ++ bs, .cons a1 a2, fun z => ?_⟩
      unfold noListL at z
      obtain ⟨z1, z2⟩ := Bool.and_eq_true_iff.mp z
      exact fun m => (List.mem_append.mp m).elim (n1 z1) (n2 z2)
theorem datK_reads (I : Inv X pins σ H s) : ∀ (kvs : List (PyData × PyData)) {ps : List (Key × V)} {vs : List (Key × Value)} {es : List DictEntry}, DatK X.K z0 H kvs ps → KV ps vs → Pairs (mixKind X.prog X.w) es vs →
    ∃ bs, ReadsAll s.heap (es.map (·.key)) (kvs.map (·.1)) [] ∧ ReadsAll s.heap (es.map (·.val)) (kvs.map (·.2)) bs ∧ (noListK kvs = true → sysModules ∉ bs)
  | [], ps, vs, es, h, r, pr => by
    unfold DatK at h
    subst h
    cases r
    cases pr
    exact ⟨[], .nil, .nil, fun _ z => nomatch z⟩
  | (k, d) :: kvs, ps, vs, es, h, r, pr => by
    unfold DatK at h
    obtain ⟨kk, x, r', rfl, rfl, _, h1, h2⟩ := h
    cases r with
    | cons r1 r2 =>
      cases pr with
      | @cons en _ _ _ p1 p2 p3 =>
        obtain ⟨as, a1, n1⟩ := dat_reads I d h1 r1.2
        obtain ⟨bs, b1, b2, n2⟩ := datK_reads I kvs h2 r2 p3
        have key : Reads s.heap en.key (keyD kk) [] := by
          rcases keyIs_shape (show keyIs _ _ = true from p1) with ⟨i, t, e1, e2⟩ | ⟨z, t, e1, e2⟩
          · rw [show kk = .inl i from r1.1.trans e1]
            exact e2 ▸ Reads.int i t
          · rw [show kk = .inr z from r1.1.trans e1]
            exact e2 ▸ Reads.str z t
        refine ⟨as ++ bs, by exact ReadsAll.cons (as := []) (bs := []) key b1, by simpa [p2] using ReadsAll.cons a1 b2, fun z => ?_⟩
        unfold noListK at z
        obtain ⟨_, z⟩ := Bool.and_eq_true_iff.mp z
        obtain ⟨z1, z2⟩ := Bool.and_eq_true_iff.mp z
        exact fun m => (List.mem_append.mp m).elim (n1 z1) (n2 z2)
end
end
mutual
theorem dat_show {K : PySem.W.Frag} {H : Hp} {z0 : Addr} : ∀ (d : PyData) {x : V}, Dat K z0 H d x → d.showable = true
  | .none, x, h => by simp only [PyData.showable]
  | .bool b, x, h => by simp only [PyData.showable]
  | .int i, x, h => by
    unfold Dat at h
    simp only [PyData.showable, decide_eq_true_eq]
    exact h.2
  | .str z, x, h => by simp only [PyData.showable]
  | .list ds, x, h => by
    unfold Dat at h
    obtain ⟨a, xs, _, _, _, h⟩ := h
    simp only [PyData.showable]
    exact datL_show ds h
  | .tuple ds, x, h => by
    unfold Dat at h
    obtain ⟨a, xs, _, _, h⟩ := h
    simp only [PyData.showable]
    exact datL_show ds h
  | .dict kvs, x, h => by
    unfold Dat at h
    obtain ⟨a, xs, _, _, h⟩ := h
    simp only [PyData.showable]
    exact datK_show kvs h
theorem datL_show {K : PySem.W.Frag} {H : Hp} {z0 : Addr} : ∀ (ds : List PyData) {xs : List V}, DatL K z0 H ds xs → PyData.showableAll ds = true
  | [], xs, h => by simp only [PyData.showableAll]
  | d :: ds, xs, h => by
    unfold DatL at h
    obtain ⟨x, r, _, h1, h2⟩ := h
    simp only [PyData.showableAll, dat_show d h1, datL_show ds h2, Bool.and_self]
theorem datK_show {K : PySem.W.Frag} {H : Hp} {z0 : Addr} : ∀ (kvs : List (PyData × PyData)) {ps : List (Key × V)}, DatK K z0 H kvs ps → PyData.showableKv kvs = true
  | [], xs, h => by simp only [PyData.showableKv]
  | (k, d) :: kvs, xs, h => by
    unfold DatK at h
    obtain ⟨kk, x, r, _, rfl, hk, h1, h2⟩ := h
    have : (keyD kk).showable = true := by
      cases kk with
      | inl i =>
        show PyData.showable (.int i) = true
        simp only [PyData.showable, decide_eq_true_eq]
        exact hk
      | inr z =>
        show PyData.showable (.str z) = true
        simp only [PyData.showable]
    simp only [PyData.showableKv, this, dat_show d h1, datK_show kvs h2, Bool.and_self]
end
theorem text_le {ts : List Str} {n : Nat} (h : piled ts ≤ n) : (listText ts).length ≤ n + 2 ∧ (tupleText ts).length ≤ n + 3 ∧ (dictText ts).length ≤ n + 2 := by
  cases ts with
  | nil => exact ⟨by show 2 ≤ n + 2; omega, by show 2 ≤ n + 3; omega, by show 2 ≤ n + 2; omega⟩
  | cons t r =>
    have j := join_length_add (t :: r) (by simp)
    refine ⟨?_, ?_, ?_⟩
    · have h1 := textFrom_length_pos r 1 (("[" : Str) ++ (if (0 : Nat) > 0 then ", " else "" : String) ++ t) (by decide)
      have h2 : (("[" : Str) ++ (if (0 : Nat) > 0 then ", " else "" : String) ++ t).length = 1 + t.length := by
        rw [strLen_append, strLen_append] <;> rfl
      have h3 : (listText (t :: r)).length = (textFrom 1 (("[" : Str) ++ (if (0 : Nat) > 0 then ", " else "" : String) ++ t) r).length + 1 := by
        show (textFrom 0 "[" (t :: r) ++ "]").length = _
        rw [strLen_append] <;> rfl
      rw [piled_cons] at h
      omega
    · unfold tupleText
      rw [strLen_append, strLen_append]
      have h1 : ((("(" : String) : Str)).length = 1 := rfl
      have h2 : (((if (t :: r).length == 1 then ",)" else ")" : String) : Str)).length ≤ 2 := by split <;> decide
      omega
    · unfold dictText
      rw [strLen_append, strLen_append]
      have h1 : ((("{" : String) : Str)).length = 1 := rfl
      have h2 : ((("}" : String) : Str)).length = 1 := rfl
      omega
theorem int_cap {i : Int} (h : i.natAbs.log2 < 1920) : (Str.ofString (toString i)).length ≤ 1921 := by
  have e := int_text_length_le (k := 1920) (by decide) h
  rw [PySem.ofString_length]
  exact e
mutual
theorem dat_cap {K : PySem.W.Frag} {H : Hp} {z0 : Addr} : ∀ (d : PyData) {x : V}, Dat K z0 H d x → d.shown.length ≤ cap d
  | .none, x, h => by simp only [PyData.shown, cap]; decide
  | .bool b, x, h => by simp only [PyData.shown, cap]; cases b <;> decide
  | .int i, x, h => by
    unfold Dat at h
    simp only [PyData.shown, cap]
    exact int_cap h.2
  | .str z, x, h => by
    unfold Dat at h
    simp only [PyData.shown, cap]
    exact StrLaws.reprText_len z h.2
  | .list ds, x, h => by
    unfold Dat at h
    obtain ⟨a, xs, _, _, _, h⟩ := h
    simp only [PyData.shown, cap]
    exact (text_le (datL_cap ds h)).1
  | .tuple ds, x, h => by
    unfold Dat at h
    obtain ⟨a, xs, _, _, h⟩ := h
    simp only [PyData.shown, cap]
    exact (text_le (datL_cap ds h)).2.1
  | .dict kvs, x, h => by
    unfold Dat at h
    obtain ⟨a, xs, _, _, h⟩ := h
    simp only [PyData.shown, cap]
    exact (text_le (datK_cap kvs h)).2.2
theorem datL_cap {K : PySem.W.Frag} {H : Hp} {z0 : Addr} : ∀ (ds : List PyData) {xs : List V}, DatL K z0 H ds xs → piled (PyData.shownAll ds) ≤ capL ds
  | [], xs, h => by simp only [PyData.shownAll, capL, piled_nil]; exact Nat.le_refl _
  | d :: ds, xs, h => by
    unfold DatL at h
    obtain ⟨x, r, _, h1, h2⟩ := h
    have a := dat_cap d h1
    have b := datL_cap ds h2
    simp only [PyData.shownAll, capL, piled_cons]
    omega
theorem datK_cap {K : PySem.W.Frag} {H : Hp} {z0 : Addr} : ∀ (kvs : List (PyData × PyData)) {ps : List (Key × V)}, DatK K z0 H kvs ps → piled (PyData.shownKv kvs) ≤ capK kvs
  | [], xs, h => by simp only [PyData.shownKv, capK, piled_nil]; exact Nat.le_refl _
  | (k, d) :: kvs, xs, h => by
    unfold DatK at h
    obtain ⟨kk, x, r, _, rfl, hk, h1, h2⟩ := h
    have a := dat_cap d h1
    have b := datK_cap kvs h2
    have c : (keyD kk).shown.length ≤ cap (keyD kk) := by
      cases kk with
      | inl i =>
        show (PyData.shown (.int i)).length ≤ cap (.int i)
        simp only [PyData.shown, cap]
        exact int_cap hk
      | inr z =>
        show (PyData.shown (.str z)).length ≤ cap (.str z)
        simp only [PyData.shown, cap]
        exact StrLaws.reprText_len z hk
    simp only [PyData.shownKv, capK, piled_cons, strLen_append]
    have e : (Str.ofString ": ").length = 2 := rfl
    omega
end
/-- repr(x), where nothing is being shown -/
def rRepr (K : PySem.W.Frag) : List V → Hp → VK → Prop := fun xs H Q => ∃ (x : V) (d : PyData) (z0 : Addr), xs = [x] ∧ Dat K z0 H d x ∧ cap d ≤ 16000000 ∧ d.depth ≤ 100 ∧ (d.hasDict = true → noList d = true) ∧ Q (.str d.shown) H
theorem call_repr {X : Cx} {k : Nat} (hg : X.A.guards = some []) (hr : Room k X.A) : CallR X (.builtin "repr") (rRepr X.K) := by
  intro pins s σ H xs us Q I r h
  obtain ⟨x, d, z0, rfl, hd, hc, hp, hl, q⟩ := h
  obtain ⟨u, rfl, ru⟩ := vals1 r
  have sz : d.shown.length ≤ sizeLine := Nat.le_trans (dat_cap d hd) (Nat.le_trans hc (by decide))
  obtain ⟨as, rd, ns⟩ := dat_reads I d hd ru
  have un := hr.un
  have go : ∀ a, u = .ref a → wpAny (model X.prog X.w) X.A (call (.builtin "repr") [u]) (EP X pins σ Q) X.xe s := fun a e => by
    subst e
    exact repr_of_reads' rd (dat_show d hd) (fun z => ns (hl z)) hg (by omega) (fun _ _ e => e) (fun h' t tk kp => ⟨.str d.shown, H, I.kept kp, ⟨t, rfl⟩, q⟩) sz
  cases d with
  | none =>
    unfold Dat at hd
    subst hd
    cases ru
    exact PySem.P.repr_of_none ⟨.str _, H, I.tok _, ⟨_, rfl⟩, by simpa only [PyData.shown] using q⟩
  | bool b =>
    unfold Dat at hd
    subst hd
    cases ru
    exact PySem.P.repr_of_bool ⟨.str _, H, I.tok _, ⟨_, rfl⟩, by simpa only [PyData.shown] using q⟩
  | int i =>
    unfold Dat at hd
    obtain ⟨rfl, hi⟩ := hd
    obtain ⟨t, rfl⟩ := ru
    exact PySem.P.repr_of_int hi ⟨.str _, H, I.tok _, ⟨_, rfl⟩, by simpa only [PyData.shown] using q⟩
  | str z =>
    unfold Dat at hd
    obtain ⟨rfl, hi⟩ := hd
    obtain ⟨t, rfl⟩ := ru
    simp only [PyData.shown] at sz q
    exact PySem.P.repr_of_str ⟨.str _, H, I.tok _, ⟨_, rfl⟩, q⟩ sz
  | list ds =>
    have hd' := hd
    unfold Dat at hd'
    obtain ⟨a, _, rfl, _⟩ := hd'
    exact go a ru
  | tuple ds =>
    have hd' := hd
    unfold Dat at hd'
    obtain ⟨a, _, rfl, _⟩ := hd'
    exact go a ru
  | dict ds =>
    have hd' := hd
    unfold Dat at hd'
    obtain ⟨a, _, rfl, _⟩ := hd'
    exact go a ru

mutual
/-- .. stays where all but tables, and but a list at z0, stays -/
theorem dat_ext {K : PySem.W.Frag} {H H' : Hp} {z0 : Addr} (e : ∀ b o, H b = some o → (∀ ps, o ≠ .tbl ps) → (b ≠ z0 ∨ ∀ xs, o ≠ .lst xs ∧ ∀ o', o ≠ .frz o' (.lst xs)) → H' b = some o) : ∀ (d : PyData) {x : V}, Dat K z0 H d x → Dat K z0 H' d x
  | .none, x, h => by unfold Dat at h ⊢; exact h
  | .bool b, x, h => by unfold Dat at h ⊢; exact h
  | .int i, x, h => by unfold Dat at h ⊢; exact h
  | .str z, x, h => by unfold Dat at h ⊢; exact h
  | .list ds, x, h => by
    unfold Dat at h ⊢
    obtain ⟨a, xs, h1, h2, h3, h4⟩ := h
    refine ⟨a, xs, h1, h2, ?_, datL_ext e ds h4⟩
    rcases h3 with (h3 | ⟨o, h3⟩) | h3
    · exact .inl (.inl (e _ _ h3 (fun ps z => nomatch z) (.inl h2)))
    · exact .inl (.inr ⟨o, e _ _ h3 (fun ps z => nomatch z) (.inl h2)⟩)
    · exact .inr h3
  | .tuple ds, x, h => by
    unfold Dat at h ⊢
    obtain ⟨a, xs, h1, h3, h4⟩ := h
    refine ⟨a, xs, h1, ?_, datL_ext e ds h4⟩
    rcases h3 with (h3 | ⟨o, h3⟩) | h3
    · exact .inl (.inl (e _ _ h3 (fun ps z => nomatch z) (.inr fun ys => ⟨(fun z => nomatch z), fun o' z => nomatch z⟩)))
    · exact .inl (.inr ⟨o, e _ _ h3 (fun ps z => nomatch z) (.inr fun ys => ⟨(fun z => nomatch z), fun o' z => nomatch z⟩)⟩)
    · exact .inr h3
  | .dict kvs, x, h => by
    unfold Dat at h ⊢
    obtain ⟨a, ps, h1, h3, h4⟩ := h
    exact ⟨a, ps, h1, e _ _ h3 (fun ps z => nomatch z) (.inr fun ys => ⟨(fun z => nomatch z), fun o' z => nomatch z⟩), datK_ext e kvs h4⟩
theorem datL_ext {K : PySem.W.Frag} {H H' : Hp} {z0 : Addr} (e : ∀ b o, H b = some o → (∀ ps, o ≠ .tbl ps) → (b ≠ z0 ∨ ∀ xs, o ≠ .lst xs ∧ ∀ o', o ≠ .frz o' (.lst xs)) → H' b = some o) : ∀ (ds : List PyData) {xs : List V}, DatL K z0 H ds xs → DatL K z0 H' ds xs
  | [], xs, h => by unfold DatL at h ⊢; exact h
  | d :: ds, xs, h => by
    unfold DatL at h ⊢
    obtain ⟨x, r, h1, h2, h3⟩ := h
    exact ⟨x, r, h1, dat_ext e d h2, datL_ext e ds h3⟩
theorem datK_ext {K : PySem.W.Frag} {H H' : Hp} {z0 : Addr} (e : ∀ b o, H b = some o → (∀ ps, o ≠ .tbl ps) → (b ≠ z0 ∨ ∀ xs, o ≠ .lst xs ∧ ∀ o', o ≠ .frz o' (.lst xs)) → H' b = some o) : ∀ (kvs : List (PyData × PyData)) {ps : List (Key × V)}, DatK K z0 H kvs ps → DatK K z0 H' kvs ps
  | [], xs, h => by unfold DatK at h ⊢; exact h
  | (k, d) :: kvs, xs, h => by
    unfold DatK at h ⊢
    obtain ⟨kk, x, r, h1, h2, h3, h4, h5⟩ := h
    exact ⟨kk, x, r, h1, h2, h3, dat_ext e d h4, datK_ext e kvs h5⟩
end
theorem dat_same {K : PySem.W.Frag} {H H' : Hp} {z0 : Addr} (e : Same H H') {d : PyData} {x : V} (h : Dat K z0 H d x) : Dat K z0 H' d x := dat_ext (fun b o q _ _ => e b o q) d h
theorem dat_extN {K : PySem.W.Frag} {H H' : Hp} {z0 : Addr} (e : ExtN H H') {d : PyData} {x : V} (h : Dat K z0 H d x) : Dat K z0 H' d x := dat_ext (fun b o q n _ => e b o q n) d h
theorem dat_butT {K : PySem.W.Frag} {H H' : Hp} {z0 : Addr} (e : ButT z0 H H') {ns : List V} (hz : H z0 = some (.lst ns)) {d : PyData} {x : V} (h : Dat K z0 H d x) : Dat K z0 H' d x := dat_ext (fun b o q n r => e b o (by
    rcases r with r | r
    · exact r
    · exact fun z => (r ns).1 (by rw [z, hz] at q; exact (Option.some.inj q).symm)) q n) d h
/-- a small piece of data, with how it can be shown -/
def Sml (K : PySem.W.Frag) (z0 : Addr) (H : Hp) (n m : Nat) (d : PyData) (x : V) : Prop := Dat K z0 H d x ∧ cap d ≤ m ∧ d.depth ≤ n ∧ (d.hasDict = true → noList d = true)
/-- a word of fates -/
def wdD (lo hi : Nat) : PyData → Bool
  | .str z => decide (lo ≤ z.length) && (decide (z.length ≤ hi) && z.cps.toList.all fun c => decide (c ∈ [110, 102, 115]))
  | _ => false
def lossD : PyData → Bool
  | .tuple [h, r] => wdD 0 200 h && wdD 1 200 r
  | _ => false
def datTy : PyData → String
  | .none => "NoneType"
  | .bool _ => "bool"
  | .int _ => "int"
  | .str _ => "str"
  | .list _ => "list"
  | .tuple _ => "tuple"
  | .dict _ => "dict"
theorem dat_ty {K : PySem.W.Frag} {z0 : Addr} {H : Hp} {d : PyData} {x : V} (h : Dat K z0 H d x) : TyB K H x (datTy d) := by
  cases d <;> unfold Dat at h
  · subst h; exact .non
  · subst h; exact .bl _
  · obtain ⟨rfl, _⟩ := h; exact .int _
  · obtain ⟨rfl, _⟩ := h; exact .str _
  · obtain ⟨a, xs, rfl, _, h, _⟩ := h; exact .lst h
  · obtain ⟨a, xs, rfl, h, _⟩ := h; exact .tup h
  · obtain ⟨a, xs, rfl, h, _⟩ := h; exact .dK h
theorem dat_tyx {K : PySem.W.Frag} {z0 : Addr} {H : Hp} {d : PyData} {x : V} (h : Dat K z0 H d x) : TyX K H x (.type (datTy d)) := by
  cases d <;> unfold Dat at h
  · subst h; exact .base .non
  · subst h; exact .base (.bl _)
  · obtain ⟨rfl, _⟩ := h; exact .base (.int _)
  · obtain ⟨rfl, _⟩ := h; exact .base (.str _)
  · obtain ⟨a, xs, rfl, _, (h | ⟨o, h⟩) | ⟨o, its, n, h, c, _⟩, _⟩ := h
    · exact .base (.lst h)
    · exact .base (.frz h)
    · exact .kList h c
  · obtain ⟨a, xs, rfl, (h | ⟨o, h⟩) | ⟨o, its, n, h, c, _⟩, _⟩ := h
    · exact .base (.tup h)
    · exact .fTuple h
    · exact .kTuple h c
  · obtain ⟨a, xs, rfl, h, _⟩ := h; exact .base (.dK h)
theorem r_isiD {K : PySem.W.Frag} {z0 : Addr} {H : Hp} {Q : VK} {d : PyData} {x : V} {T : String} {b : Bool} (h : Dat K z0 H d x) (hk : kitB (datTy d) T = some b) (q : Q (.bl b) H) : rIsi K [x, .ty T] H Q := r_isi (dat_tyx h) hk q
theorem ty_in (d : PyData) : datTy d ∈ ["NoneType", "bool", "int", "str", "list", "tuple", "dict"] := by cases d <;> simp [datTy]
theorem isstr (d : PyData) : kitB (datTy d) "str" = some (decide (datTy d = "str")) := (by decide +kernel : ∀ T ∈ ["NoneType", "bool", "int", "str", "list", "tuple", "dict"], kitB T "str" = some (decide (T = "str"))) _ (ty_in d)
theorem istup (d : PyData) : kitB (datTy d) "tuple" = some (decide (datTy d = "tuple")) := (by decide +kernel : ∀ T ∈ ["NoneType", "bool", "int", "str", "list", "tuple", "dict"], kitB T "tuple" = some (decide (T = "tuple"))) _ (ty_in d)
theorem isbool (d : PyData) : kitB (datTy d) "bool" = some (decide (datTy d = "bool")) := (by decide +kernel : ∀ T ∈ ["NoneType", "bool", "int", "str", "list", "tuple", "dict"], kitB T "bool" = some (decide (T = "bool"))) _ (ty_in d)
theorem isint (d : PyData) : kitB (datTy d) "int" = some (decide (datTy d = "int") || decide (datTy d = "bool")) := (by decide +kernel : ∀ T ∈ ["NoneType", "bool", "int", "str", "list", "tuple", "dict"], kitB T "int" = some (decide (T = "int") || decide (T = "bool"))) _ (ty_in d)
theorem ty_str {d : PyData} (h : datTy d = "str") : ∃ z, d = .str z := by
  cases d with
  | str z => exact ⟨z, rfl⟩
  | _ => simp [datTy] at h
theorem ty_tup {d : PyData} (h : datTy d = "tuple") : ∃ ds, d = .tuple ds := by
  cases d with
  | tuple z => exact ⟨z, rfl⟩
  | _ => simp [datTy] at h
theorem wdD_str {lo hi : Nat} {d : PyData} (h : datTy d ≠ "str") : wdD lo hi d = false := by
  cases d with
  | str z => exact absurd rfl h
  | _ => rfl
theorem wdD_S {lo hi : Nat} {l : List Nat} : wdD lo hi (.str (S l)) = (decide (lo ≤ l.length) && (decide (l.length ≤ hi) && l.all fun c => decide (c ∈ [110, 102, 115]))) := by
  show (decide (lo ≤ (S l).length) && (decide ((S l).length ≤ hi) && (S l).cps.toList.all fun c => decide (c ∈ [110, 102, 115]))) = _
  rw [S_len, S_codes]
/-! ### defs that want to know that nothing is being shown -/
abbrev Free (A : Around) : Prop := A.guards = some []
structure OkG (P : Program) (w : World) (K : PySem.W.Frag) (mg : Str → Option Value) (base : Heap) (k : Nat) (x : Str) (st : Stmt) (ps : List Str) (sp : Sp) : Prop where
  ex : ∃ f fd, mg x = some (.ref f) ∧ FnP K x st f fd ∧ Binds K fd ps [] ∧ (∀ vs H Q E, sp vs H Q E → vs.length = ps.length) ∧
    ∀ (A : Around) (outer : List Env) (s : Shared) (H : Hp) (args : Args) (us : List Value) (vs : List V) (Q : VK) (E : XK), Free A → Room k A → Env0 P w K mg base A outer s H → BindsTo s fd args (ps.zip us) → Vals vs us → sp vs H Q E →
      codeAny (model P w) A (.call (.ref f) args) (CR CX0 outer P w H s Q E) s
theorem okG_of {P : Program} {w : World} {K : PySem.W.Frag} {mg : Str → Option Value} {base : Heap} {k : Nat} {x : Str} {st : Stmt} {N ps : List Str} {sp : Sp} {fd : FuncData} (g : mg x = some (.ref (He.ga K x))) (D : FnP K x st (He.ga K x) fd) (b : Binds K fd ps []) (S : FnScope N ps (defScope st)) (len : ∀ vs H Q E, sp vs H Q E → vs.length = ps.length)
    (hbody : ∀ (cdv : Value) (A : Around) (outer : List Env) (s : Shared) (H : Hp) (vs : List V) (Q : VK) (E : XK), Free (A.deeper (envOfC x (defScope st) s.heap.objs.size (He.ga K x) cdv)) → cdv = .ref (He.cT K (x, none)).1 → Room k (A.deeper (envOfC x (defScope st) s.heap.objs.size (He.ga K x) cdv)) → sp vs H Q E →
      ∃ t, PSs (cxOf CX0 P w K mg base N x (defScope st) (He.ga K x) cdv A outer s H E) (defBody st) t ∧ t { nx := fun _ H' => Q .non H', rt := Q } (start N vs) H) : OkG P w K mg base (k + 1) x st ps sp := by
  refine ⟨_, fd, g, D, b, len, fun A outer s H args us vs Q E hf hr e0 hb r h => ?_⟩
  obtain ⟨oc, od, dV, kV, doc, pm, an, cdv, ct, osl, rfl, lk, hcd, _, _⟩ := D.ex
  obtain ⟨c, rfl⟩ := He.codeIn_ref hcd
  have ec : He.codeOf K (x, none) = c := He.codeOf_eq (p := (x, none)) lk rfl
  exact run_ofS lk hcd S hr e0 hb r (len _ _ _ _ h) fun hr' => hbody (.ref c) A outer s H vs Q E hf (by rw [← ec] <;> rfl) hr' h
section
variable {X : Cx} {k j : Nat} {x : Str} {st : Stmt} {ps : List Str} {sp : Sp} {E : XK} {e : Expr} {es : List Expr} {t : TA} {p pos : Pos}
theorem pe_clG (F : OkG X.prog X.w X.K X.mg X.base k x st ps sp) (hf : Free X.A) (hr : Room j X.A) (hg : Gl X x) (ha : PA X (e :: es) t) (hj : k ≤ j := by decide) (hdb : (x == ("__debug__" : Str)) = false := by decide) (he : starEach (e :: es) X.env = (false, eval e X.env) :: starEach es X.env := by rfl)
    (hpl : (backTo pos (starEach es X.env)).any (·.1) = false := by rfl) : PE X (.Call (.Name x p) (e :: es) [] pos) (tCall sp [] E t) := by
  obtain ⟨f, fd, gg, D, b, len, F⟩ := F.ex
  refine ⟨fun pins s σ H Q I h => ?_⟩
  refine wpAny_Call_Name_kw (ld_glob I hg gg ?_ hdb)
  refine PySem.W.callWith_K (h₀ := X.base) I.ok.mod.kin D.kp (thn (ha.run pos pins s σ H _ I h) fun us s1 ⟨vs, H1, I1, r, h1⟩ => ⟨I1.kIn, ?_⟩) he hpl
  have h1 : sp (vs ++ []) H1 Q E := h1
  rw [List.append_nil] at h1
  have hl := len _ _ _ _ h1
  have hb := b s1 us I1.kIn (by rw [List.append_nil, ← r.length]; exact hl)
  rw [List.append_nil] at hb
  refine wpAny_call (codeAny_mono (F X.A X.stack s1 H1 ⟨us, []⟩ us vs Q E hf (hr.mono hj) I1.env0 hb r h1) fun r s' hq => ?_)
  cases r with
  | error e => exact False.elim hq
  | ok fl => cases fl with
    | ret u => exact I1.after hq
    | _ => exact False.elim hq
end
/-- the end of such a law -/
theorem walk_ofG {l : PySem.W.OpenLaw} {n k : Nat} {q : Program} {loose : List Str} {XP : (Str → Option Value) → Heap → Prop} {YP : World → Heap → Prop} {d : DefRec} {x : Str} {st : Stmt} {tf : List He.Defn} {fl : List He.Fa} {fn : List He.DefD} {ex : PySem.W.Frag → Bool} {sp : PySem.W.Frag → Sp}
    (hn : l.most = some n) (hn2 : n ≤ sizeLine) (hdf : d.params.defaults = []) (hr : Room k callerA) (hY : ∀ (w : World) (h : Heap), YP w h → ∃ K : PySem.W.Frag, K.In h ∧ He.SaysX fl fn [] tf ex w h K)
    (hb : ∀ {K : PySem.W.Frag} {f : Addr} {fd : FuncData}, FnP K d.name st f fd → ∀ (s : Shared) (u : Value), BindsTo s fd ⟨[u], []⟩ [(x, u)])
    (hsp : ∀ (K : PySem.W.Frag) (H : Hp) (a : Addr) (ns : List Int), ns.length ≤ n → Tabs (tabs K tf) H → SqL K H a (ns.map V.int) → sp K [.ref a] H (fun v _ => v = .bl true) E0)
    (F : ∀ (w : World) (mg : Str → Option Value) (h : Heap) (K : PySem.W.Frag), K.In h → He.SaysX fl fn [] tf ex w h K → h.Ns mainGlobals mg → ∀ base : Heap, K.In base → base.Ns mainGlobals mg → TBs K mg base tf → OkG l.prog w K mg base k d.name st [x] (sp K)) :
    PySem.W.WalkO q loose XP YP l.row.toRowW d [] (fun f vs => PySem.call f vs) := by
  refine Att.attach_callB hn hdf fun w s₀ s₁ mg mb fa o pm cd doc a vs ns G Y ho hd hcd hmg hobj hints hlen hbits hg => ?_
  obtain ⟨K, KX, c⟩ := hY w _ Y
  have fw : ∀ {φ : Addr × Addr → Prop}, (∀ p ∈ tf, φ (He.cT K p)) → ∀ q ∈ tf.map (He.cT K), φ q := fun h q hq => by
    obtain ⟨p, hp, rfl⟩ := List.mem_map.mp hq
    exact h p hp
  refine bottomed KX G.T.g G.T.b G.T.builtins G.T.nolimit hg (fw c.empty) (fw c.out) (fw fun p hp => PySem.W.codeHd_of_K KX (c.hd p hp)) G.T.bmain hobj hints (Nat.le_trans hlen hn2) fun base H B => ?_
  have hT : TBs K mg base tf := fun p hp => B.tabs _ (List.mem_map.mpr ⟨p, hp, rfl⟩)
  obtain ⟨f, fd, gg, D, b, len, run⟩ := (F w mg _ K KX c G.T.g base B.env.mod.kin B.env.mod.glob hT).ex
  rw [hmg] at gg
  cases gg
  have tb : Tabs (tabs K tf) H := fun r hr => by
    obtain ⟨p, hp, rfl⟩ := List.mem_map.mp hr
    exact TabS.nil (B.emp _ (List.mem_map.mpr ⟨p, hp, rfl⟩))
  exact run callerA [] s₁ H ⟨[.ref a], []⟩ [.ref a] [.ref a] _ _ rfl hr B.env (hb D s₁ (.ref a)) (.cons rfl .nil) (hsp K H a ns hlen tb B.scr)

/-! ### d.update(other), xs == [] -/
def rUpd : V → List V → Hp → VK → Prop := fun x xs H Q => ∃ (d o : Addr) (kvs more : List (Key × V)), x = .ref d ∧ xs = [.ref o] ∧ H d = some (.dK kvs) ∧ H o = some (.dK more) ∧ d ≠ o ∧ kvs.length + more.length ≤ 1000 ∧ (mergeK kvs more).length ≤ 1000 ∧ Q .non (upd H d (.dK (mergeK kvs more)))
theorem mt_update {X : Cx} : MtR X "dict.update" rUpd := by
  intro pins s σ H x xs v us Q I rx rs h
  obtain ⟨d, o, kvs, more, rfl, rfl, e, e2, ne, hl, hl2, q⟩ := h
  obtain rfl : v = Value.ref d := rx
  obtain ⟨u, rfl, ru⟩ := vals1 rs
  obtain rfl : u = Value.ref o := ru
  obtain ⟨z, hd, vs, rel, dd⟩ := dk_of I.hok e
  obtain ⟨z2, hd2, vs2, rel2, dd2⟩ := dk_of I.hok e2
  have sz : vs.length + vs2.length ≤ sizeLine := by
    rw [← rel.length, ← rel2.length, sizeLine_eq]
    omega
  refine call_meetsIn PySem.F.slot_dict_update dd.typeIs PySem.F.entry_dict_update (PySem.F.args_dict_update_2 _ _) (meets_dict_update (mixKind X.prog X.w) d o ne hd2) ⟨vs, vs2, dd, dd2, sz, fun h' dd' _ hs => ?_⟩
  have he : ∃ q, h'.get? d = some q := let ⟨q, _, _, hq, _⟩ := dd'; ⟨q, hq⟩
  exact ⟨.non, _, d_write (t' := s.toks) I (by rw [e]; exact True.intro) hs he (dk_new (Nat.le_trans hl2 (by rw [sizeLine_eq]; omega)) hd (KV.merge rel2 rel) dd'), rfl, q⟩

/-! ### data, piece by piece -/
section
variable {K : PySem.W.Frag} {z0 : Addr} {H : Hp}
theorem dat_non : Dat K z0 H .none .non := by unfold Dat; rfl
theorem dat_bl {b : Bool} : Dat K z0 H (.bool b) (.bl b) := by unfold Dat; rfl
theorem dat_int {i : Int} (h : i.natAbs.log2 < 1920) : Dat K z0 H (.int i) (.int i) := by unfold Dat; exact ⟨rfl, h⟩
theorem dat_S {l : List Nat} (h : ∀ c ∈ l, c < 16 ^ 8) : Dat K z0 H (.str (S l)) (.str (S l)) := by
  unfold Dat okPts
  rw [S_codes]
  exact ⟨rfl, h⟩
theorem datL_nil : DatL K z0 H [] [] := by unfold DatL; rfl
theorem datL_cons {d : PyData} {ds : List PyData} {x : V} {xs : List V} (h : Dat K z0 H d x) (r : DatL K z0 H ds xs) : DatL K z0 H (d :: ds) (x :: xs) := by
  rw [DatL]
  exact ⟨x, xs, rfl, h, r⟩
theorem dat_tup {a : Addr} {xs : List V} {ds : List PyData} (h : SqT K H a xs) (r : DatL K z0 H ds xs) : Dat K z0 H (.tuple ds) (.ref a) := by
  rw [Dat]
  exact ⟨a, xs, rfl, h, r⟩
theorem dat_lst {a : Addr} {xs : List V} {ds : List PyData} (n : a ≠ z0) (h : SqL K H a xs) (r : DatL K z0 H ds xs) : Dat K z0 H (.list ds) (.ref a) := by
  rw [Dat]
  exact ⟨a, xs, rfl, n, h, r⟩
theorem datK_nil : DatK K z0 H [] [] := by unfold DatK; rfl
theorem datK_cons {l : List Nat} {d : PyData} {r : List (PyData × PyData)} {x : V} {q : List (Key × V)} (hk : ∀ c ∈ l, c < 16 ^ 8) (h : Dat K z0 H d x) (t : DatK K z0 H r q) : DatK K z0 H ((.str (S l), d) :: r) ((.inr (S l), x) :: q) := by
  rw [DatK]
  exact ⟨.inr (S l), x, q, rfl, rfl, (by show okPts (S l); unfold okPts; rw [S_codes]; exact hk), h, t⟩
theorem dat_dic {a : Addr} {ps : List (Key × V)} {kvs : List (PyData × PyData)} (h : H a = some (.dK ps)) (r : DatK K z0 H kvs ps) : Dat K z0 H (.dict kvs) (.ref a) := by
  rw [Dat]
  exact ⟨a, ps, rfl, h, r⟩
end

/-! ### s.upper() -/
def rUpS : V → List V → Hp → VK → Prop := fun x xs H Q => ∃ l : List Nat, x = .str (S l) ∧ xs = [] ∧ l.length ≤ 1000000 ∧ l.all (· < 128) = true ∧ Q (.str (S (l.map PyProof.Rows.up1))) H
theorem mt_upS {X : Cx} : MtR X "str.upper" rUpS := by
  intro pins s σ H x xs v us Q I rx rs h
  obtain ⟨l, rfl, rfl, hl, ha, q⟩ := h
  obtain ⟨t, rfl⟩ := rx
  cases rs
  refine PySem.SC.upper (PyProof.Rows.short24 (by have := PyProof.Rows.len_upper (S l); rw [S_len] at this; omega)) ⟨.str _, H, I.tok _, ⟨_, rfl⟩, ?_⟩
  have e : Txt.upper (S l) = S (l.map PyProof.Rows.up1) := SX.upper_S ha
  rw [e]
  exact q
theorem r_upS {H : Hp} {Q : VK} {l : List Nat} (hl : l.length ≤ 1000000) (ha : l.all (· < 128) = true) (q : Q (.str (S (l.map PyProof.Rows.up1))) H) : rUpS (.str (S l)) [] H Q := ⟨l, rfl, rfl, hl, ha, q⟩

/-! ### all([test of a letter for letter in s]) -/
theorem lcS_test {l : List Nat} (f : Nat → Bool) {g : TG} {te : TE} {vs : List Nat} {σ : L2.St} {H1 : Hp} {D : Addr} {Qd : Hp → Prop} (hD : H1 D = none) (hl : l.length ≤ 1000000)
    (hs : ∀ (i c : Nat) (H : Hp), l[i]? = some c → Same H1 H → ∀ R : V → Hp → Prop, (∀ H4, Same H H4 → R (.bl (f c)) H4) → g (.str (S [c])) (wipe σ vs) H fun σ2 H2 => wipe σ2 vs = wipe σ vs ∧ te σ2 H2 R)
    (hd : ∀ H, Same H1 H → H D = some (.lst ((l.map f).map V.bl)) → Qd H) :
    ∃ W : Nat → Nat → Hp → Prop, (∃ m, W 0 m (upd H1 D (.lst []))) ∧ ∀ i m H, W i m H →
      ((Its (S l)).stop i H ∧ Qd H) ∨ ((Its (S l)).go i H ∧ ∃ Nx : Hp → Prop, (∀ H', Nx H' → ∃ m', m' < m ∧ W (i + 1) m' H') ∧ ∀ x H', (Its (S l)).yld i H x H' → g x (wipe σ vs) H' fun σ2 H2 => wipe σ2 vs = wipe σ vs ∧ tYes σ2 H2 fun b H3 =>
        if b = true then te σ2 H3 fun y H4 => ∃ acc, H4 D = some (.lst acc) ∧ acc.length < sizeLine ∧ Nx (upd H4 D (.lst (acc ++ [y]))) else Nx H3) := by
  refine lc_acc (n := l.length) (fun i H' => Same H1 H') (fun i v => ∃ c, l[i]? = some c ∧ v = .bl (f c)) hl (same_new hD) (fun i H' acc acc' e _ => Same.mut e hD) (fun i H' hi e => ?_) (fun H' e => ?_) ?_ ?_
  · show i < (S l).length
    rw [S_len]
    exact hi
  · show (S l).length ≤ l.length
    rw [S_len]
    exact Nat.le_refl _
  · rintro i x H' H2 acc hi e hacc y R hR
    obtain ⟨c, hc⟩ : ∃ c, l[i]? = some c := ⟨l[i], List.getElem?_eq_getElem hi⟩
    obtain ⟨rfl, c', e1, rfl⟩ := y
    have e1 : l[i]? = some c' := by simpa [S] using e1
    rw [hc] at e1
    cases e1
    exact hs i c _ hc e R fun H4 e4 => hR _ _ (e4 _ _ hacc) ⟨c, hc, rfl⟩ (e.trans e4)
  · intro H' acc hl2 hv hacc e
    refine hd _ e ?_
    rw [hacc]
    congr 2
    refine List.ext_getElem? fun i => ?_
    by_cases hi : i < acc.length
    · obtain ⟨c, e1, e2⟩ := hv i _ (List.getElem?_eq_getElem hi)
      rw [List.getElem?_eq_getElem hi, e2, List.getElem?_map, List.getElem?_map, e1]
      rfl
    · rw [List.getElem?_eq_none (by omega), List.getElem?_eq_none (by simp; omega)]
theorem r_allB {K : PySem.W.Frag} {H : Hp} {Q : VK} {D : Addr} {bs : List Bool} (h : H D = some (.lst (bs.map V.bl))) (q : Q (.bl (bs.all id)) H) : rAll K [.ref D] H Q := ⟨D, bs, rfl, SqL.of h, q⟩

/-! ### xs == [] -/
def rEqE (K : PySem.W.Frag) : R2 := fun x y H Q => ∃ (a b : Addr) (xs : List V), x = .ref a ∧ y = .ref b ∧ SqL K H a xs ∧ SqL K H b [] ∧ Q (.bl xs.isEmpty) H
theorem op_eqE {X : Cx} (hu : X.A.units + 64 < cLine) : OpR X (compareOp .Eq) (rEqE X.K) := by
  intro pins s σ H x y v u Q I rx ry h
  obtain ⟨a, b, xs, rfl, rfl, h1, h2, q⟩ := h
  cases xs with
  | nil => exact op_eqD hu pins s σ H _ _ v u Q I rx ry ⟨_, _, .lst h1 .nil, .lst h2 .nil, by decide, by decide, q⟩
  | cons z zs =>
    obtain rfl : v = Value.ref a := rx
    obtain rfl : u = Value.ref b := ry
    obtain ⟨its, r1, p1, _⟩ := I.list h1
    obtain ⟨its2, r2, p2, _⟩ := I.list h2
    have l1 := r1.length
    have l2 := r2.length
    refine SeqAt.eq_list_lengthsAt p1.isList p2.isList ?_ (by omega) ?_
    · simp only [List.size_toArray, ← l1, ← l2, List.length_cons, List.length_nil]
      simp
    · exact ⟨.bl false, H, I, rfl, q⟩

theorem datL_len {K : PySem.W.Frag} {z0 : Addr} {H : Hp} : ∀ {ds : List PyData} {xs : List V}, DatL K z0 H ds xs → ds.length = xs.length
  | [], xs, h => by unfold DatL at h; rw [h]; rfl
  | d :: ds, xs, h => by
    unfold DatL at h
    obtain ⟨x, r, rfl, _, h2⟩ := h
    rw [List.length_cons, List.length_cons, datL_len h2]
theorem datL_two {K : PySem.W.Frag} {z0 : Addr} {H : Hp} {d1 d2 : PyData} {xs : List V} (h : DatL K z0 H [d1, d2] xs) : ∃ x1 x2, xs = [x1, x2] ∧ Dat K z0 H d1 x1 ∧ Dat K z0 H d2 x2 := by
  rw [DatL] at h
  obtain ⟨x1, r, rfl, h1, h⟩ := h
  rw [DatL] at h
  obtain ⟨x2, r, rfl, h2, h⟩ := h
  rw [DatL] at h
  subst h
  exact ⟨x1, x2, rfl, h1, h2⟩
theorem wdD_low {d : PyData} (h : wdD 0 200 d = false) : wdD 1 200 d = false := by
  cases d with
  | str z =>
    have h : (decide (0 ≤ z.length) && (decide (z.length ≤ 200) && z.cps.toList.all fun c => decide (c ∈ [110, 102, 115]))) = false := h
    simp only [Nat.zero_le, decide_true, Bool.true_and] at h
    show (decide (1 ≤ z.length) && (decide (z.length ≤ 200) && z.cps.toList.all fun c => decide (c ∈ [110, 102, 115]))) = false
    rw [h, Bool.and_false]
  | _ => rfl
theorem wdD_val {K : PySem.W.Frag} {z0 : Addr} {H : Hp} {lo hi : Nat} {d : PyData} {x : V} (h : wdD lo hi d = true) (hd : Dat K z0 H d x) : ∃ l, d = .str (S l) ∧ x = .str (S l) := by
  cases d with
  | str z =>
    unfold Dat at hd
    exact ⟨_, congrArg PyData.str (S_of z), by rw [hd.1, ← S_of z]⟩
  | _ => unfold wdD at h; cases h
theorem wdD_one {l : List Nat} (h : wdD 0 200 (.str (S l)) = true) : wdD 1 200 (.str (S l)) = !decide (V.str (S l) = V.str (S [])) := by
  rw [wdD_S] at h ⊢
  simp only [Nat.zero_le, decide_true, Bool.true_and] at h
  rw [h, Bool.and_true]
  by_cases e : l = []
  · subst e
    simp
  · have h1 : 1 ≤ l.length := Nat.pos_of_ne_zero fun z => e (List.eq_nil_of_length_eq_zero z)
    rw [decide_eq_true h1, decide_eq_false (fun z => e (S_iff.mp z))]
    rfl
/-- what a word tells -/
theorem wdD_true {lo hi : Nat} {l : List Nat} (h : wdD lo hi (.str (S l)) = true) : Wd l ∧ lo ≤ l.length ∧ l.length ≤ hi := by
  rw [wdD_S] at h
  simp only [Bool.and_eq_true, decide_eq_true_eq, List.all_eq_true] at h
  refine ⟨fun c hc => ?_, h.1, h.2.1⟩
  have := h.2.2 c hc
  simpa using this
end Tf
/-! ### t[::-1] -/
namespace HT
open PySem PySem.Spec PyProof.Rows
section
variable {prog : Program} {w : World} {A : Around} {E : Value → Shared → Prop} {s : Shared}
theorem adjust_rev (n : Nat) : Builtin.Slice.sliceAdjust none none (-1) (n : Int) = ((n : Int) - 1, -1) := by
  unfold Builtin.Slice.sliceAdjust
  simp
theorem places_rev (n : Nat) : Builtin.Slice.slicePlaces ((n : Int) - 1) (-1) (-1) = n := by
  unfold Builtin.Slice.slicePlaces
  simp
  omega
theorem pick_rev (xs : Array Value) : ((List.range xs.size).filterMap fun (m : Nat) => xs[(((xs.size : Int) - 1) + (m : Int) * (-1)).toNat]?).toArray = xs.toList.reverse.toArray := by
  have e : (fun (m : Nat) => xs[(((xs.size : Int) - 1) + (m : Int) * (-1)).toNat]?) = (xs[·]?) ∘ fun m => xs.size - 1 - m := by
    funext m
    show _ = xs[xs.size - 1 - m]?
    have : (((xs.size : Int) - 1) + (m : Int) * (-1)).toNat = xs.size - 1 - m := by omega
    rw [this]
  rw [e, ← List.filterMap_map, PySem.W.krv_range, List.filterMap_reverse, PySem.W.krv_all]
theorem sliceApplied_rev {sl : Addr} {vl vu vs : Value} {n : Nat} {Q : Int × Int × Nat → Shared → Prop} (hs : s.heap.IsSliceOf sl vl vu vs) (pl : IsPart vl none) (pu : IsPart vu none) (ps : IsPart vs (some (-1)))
    (h : Q ((n : Int) - 1, -1, n) s) : wpAny (model prog w) A (Builtin.Slice.sliceApplied (.ref sl) (pure (n : Int))) Q E s := by
  obtain ⟨os, hos, hcs, hds⟩ := id hs
  unfold Builtin.Slice.sliceApplied Builtin.Slice.sliceFields
  refine wpAny_bind (wpAny_bind (wpAny_field hos hds (x := vl) rfl (wpAny_bind (wpAny_field hos hds (x := vu) rfl (wpAny_bind (wpAny_field hos hds (x := vs) rfl (wpAny_pure ?_)))))))
  refine wpAny_bind (slicePart_ ps ?_)
  show wpAny _ _ (if ((-1 : Int) == 0) = true then _ else _) _ _ s
  rw [if_neg (by decide)]
  refine wpAny_bind (slicePart_ pl (wpAny_bind (slicePart_ pu (wpAny_bind (wpAny_pure ?_)))))
  show wpAny _ _ (match Builtin.Slice.sliceAdjust none none (-1) (n : Int) with | (lo, hi) => pure (lo, (-1 : Int), Builtin.Slice.slicePlaces lo hi (-1))) _ _ s
  rw [adjust_rev n]
  show wpAny _ _ (pure ((n : Int) - 1, (-1 : Int), Builtin.Slice.slicePlaces ((n : Int) - 1) (-1) (-1))) _ _ s
  rw [places_rev]
  exact wpAny_pure h
theorem getItem_tuple_rev {t sl : Addr} {items : Array Value} {vl vu vs : Value} {Q : Value → Shared → Prop} (ht : IsTup s.heap t items) (hs : s.heap.IsSliceOf sl vl vu vs) (pl : IsPart vl none) (pu : IsPart vu none) (ps : IsPart vs (some (-1)))
    (h : Q (.ref s.heap.objs.size) { s with heap := s.heap.push { cls := .type "tuple", data := .seq items.toList.reverse.toArray } })
    (hsz : items.size ≤ sizeLine) : wpAny (model prog w) A (getItem (.ref t) (.ref sl)) Q E s := by
  have htake : sizeOk (.seq items.toList.reverse.toArray) := by
    show items.toList.reverse.toArray.size ≤ sizeLine
    rw [List.size_toArray, List.length_reverse, Array.length_toList]
    omega
  obtain ⟨os, hos, hcs, hds⟩ := id hs
  have hTs : s.TypeIs (.ref sl) "slice" := ⟨os, hos, hcs⟩
  unfold getItem
  try with_reducible refine wpAny_holding ?_
  first | refine wpAny_bind (wpAny_pure ?_) | skip
  refine wpAny_bind (wpAny_sequenceKey ht.typeIs (by decide) ?_)
  refine wpAny_bind (wpAny_callSpecial?_slot (name := Str.ofString "__getitem__") ht.typeIs PyProof.Rows.slot_tuple_getitem
    (wpAny_call_entry PyProof.Rows.slot_tuple_getitem ht.typeIs entry_tuple_getitem ?_ (args_tuple_getitem _ _)))
  show wpAny _ _ (Builtin.Tuple.tupleItemsOf (.ref t) >>= _) _ _ s
  refine wpAny_bind (tupleItemsOf_ ht ?_)
  refine wpAny_bind (wpAny_typeOf hTs ?_)
  rw [if_pos (by decide)]
  refine wpAny_bind (sliceApplied_rev hs pl pu ps ?_)
  show wpAny _ _ (if (((items.size : Int) - 1) == 0 && (-1 : Int) == 1 && items.size == items.size) = true then _ else _) _ _ s
  rw [if_neg (by simp), pick_rev]
  first
    | exact wpAny_bind (m := Builtin.Tuple.tupleExact _) (wpAny_newObj_type (wpAny_pure ⟨_, rfl, wpAny_pure h⟩) htake)
    | exact wpAny_bind (m := Builtin.Tuple.tupleExact _) (wpAny_newObj_type (wpAny_bind (wpAny_pure (wpAny_pure ⟨_, rfl, wpAny_pure h⟩))) htake)
    | exact wpAny_bind (wpAny_bind (m := Builtin.Tuple.tupleExact _) (wpAny_newObj_type (wpAny_pure (wpAny_pure ⟨_, rfl, wpAny_pure h⟩)) htake))
    | exact wpAny_bind (wpAny_bind (m := Builtin.Tuple.tupleExact _) (wpAny_newObj_type (wpAny_pure ⟨_, rfl, wpAny_pure h⟩) htake))
end
end HT
namespace Tf
open PySem PySem.Spec PyProof.Rows L2 LamX
def tRevT (K : PySem.W.Frag) (te : TE) : TE := fun σ H Q => te σ H fun x H1 => ∃ a xs, x = .ref a ∧ SqT K H1 a xs ∧ ∀ p, H1 p = none → Q (.ref p) (upd H1 p (.tup xs.reverse))
theorem pe_revT {X : Cx} {e : Expr} {te : TE} {k : Nat} {p1 p2 p3 pos : Pos} (he : PE X e te) : PE X (.Subscript e (.Slice none none (some (.UnaryOp .USub (.Constant (.int 1) k p1) p2)) p3) pos) (tRevT X.K te) := by
  refine ⟨fun pins s σ H Q I h => ?_⟩
  refine Subscript_ (thn (he.run pins s σ H _ I h) fun v s1 ⟨x, H1, I1, r1, q1⟩ => ?_)
  obtain ⟨a, xs, ex, hx, q⟩ := q1
  subst ex
  cases r1
  have hst : PO X (some (.UnaryOp .USub (.Constant (.int 1) k p1) p2)) (tPart (tUn (rU fun i => .int (-i)) (tC (.int 1)))) := po_some (pe_un un_neg pe_int)
  refine wpAny_Slice (thn (po_none.run pins s1 σ H1 (fun o H2 => o = none ∧ H2 = H1) I1 ⟨rfl, rfl⟩) fun vl s2 ⟨l, H2, I2, pl, el, e2⟩ => ?_)
  subst el e2
  refine thn (po_none.run pins s2 σ H2 (fun o H3 => o = none ∧ H3 = H2) I2 ⟨rfl, rfl⟩) fun vu s3 ⟨u, H3, I3, pu, eu, e3⟩ => ?_
  subst eu e3
  refine thn (hst.run pins s3 σ H3 (fun o H4 => o = some (-1) ∧ H4 = H3) I3 ⟨1, rfl, -1, rfl, rfl, rfl⟩) fun vs s4 ⟨o, H4, I4, ps, eo, e4⟩ => ?_
  subst eo e4
  have I5 : Inv X pins σ H4 { s4 with heap := s4.heap.push { cls := .type "slice", data := .fields #[vl, vu, vs] } } := I4.kept (t' := s4.toks) fun b ob q => Heap.get?_push_of_some _ q
  obtain ⟨its, r, ht, hz⟩ := I5.tuple hx
  have hlen := r.length
  show wpAny (model X.prog X.w) X.A (subscriptTail e (.Slice none none (some (.UnaryOp .USub (.Constant (.int 1) k p1) p2)) p3) (.ref a) (.ref s4.heap.objs.size)) (EP X pins σ Q) X.xe { s4 with heap := s4.heap.push { cls := .type "slice", data := .fields #[vl, vu, vs] } }
  refine tail_any (ops := [.ref a, .ref s4.heap.objs.size]) ht.typeIs (PyProof.Rows.slot_tuple_getitem.lookup) ?_ (by with_unfolding_all rfl)
  refine HT.getItem_tuple_rev ht (Heap.IsSliceOf.new _ vl vu vs) pl pu ps ?_ (by rw [List.size_toArray]; omega)
  refine ⟨.ref _, _, I5.laid (t' := s4.toks) (o := .tup xs.reverse) (fun b ob q => Heap.get?_push_of_some _ q) (Nat.le_refl _) ?_, rfl, q _ (I5.hok.fresh (Nat.le_refl _))⟩
  exact ⟨by rw [List.length_reverse]; exact hz, _, r.reverse, IsTup.new _ _⟩
end Tf

set_option Elab.async false
set_option linter.all false
set_option maxRecDepth 100000
set_option maxHeartbeats 2000000
/-! data that are bent: texts and tuples of such -/
namespace Tf
open PySem PySem.Spec PyProof.Rows L2
mutual
/-- texts of plain signs, short, and tuples of such -/
def bt : PyData → Bool
  | .str z => decide (z.length ≤ 400) && z.cps.toList.all fun c => decide (c < 128) && !decide (c = 10)
  | .tuple ds => btL ds
  | .none => true
  | .bool _ => true
  | .int i => decide (i.natAbs < 2 ^ 1000)
  | _ => false
def btL : List PyData → Bool
  | [] => true
  | d :: ds => bt d && btL ds
end
mutual
theorem bt_plain : ∀ (d : PyData), bt d = true → d.hasDict = false ∧ noList d = true ∧ d.canLay0 = true
  | .str z, h => by
    unfold bt at h
    rw [Bool.and_eq_true, List.all_eq_true] at h
    refine ⟨rfl, rfl, ?_⟩
    show PyData.strOk z = true
    unfold PyData.strOk
    rw [← Array.all_toList]
    refine List.all_eq_true.mpr fun c hc => decide_eq_true ?_
    have := h.2 c hc
    rw [Bool.and_eq_true, decide_eq_true_eq] at this
    omega
  | .tuple ds, h => by
    unfold bt at h
    obtain ⟨h1, h2, h3⟩ := btL_plain ds h
    refine ⟨?_, ?_, ?_⟩
    · simpa only [PyData.hasDict] using h1
    · simpa only [noList] using h2
    · simpa only [PyData.canLay0] using h3
  | .none, h => ⟨rfl, rfl, by simp only [PyData.canLay0]⟩
  | .bool _, h => ⟨rfl, rfl, by simp only [PyData.canLay0]⟩
  | .int _, h => ⟨rfl, rfl, by simp only [PyData.canLay0]⟩
  | .list _, h => by unfold bt at h; cases h
  | .dict _, h => by unfold bt at h; cases h
theorem btL_plain : ∀ (ds : List PyData), btL ds = true → PyData.hasDictAll ds = false ∧ noListL ds = true ∧ PyData.canLayAll0 ds = true
  | [], _ => ⟨rfl, rfl, rfl⟩
  | d :: ds, h => by
    unfold btL at h
    rw [Bool.and_eq_true] at h
    obtain ⟨h1, h2, h3⟩ := bt_plain d h.1
    obtain ⟨g1, g2, g3⟩ := btL_plain ds h.2
    refine ⟨?_, ?_, ?_⟩
    · simp only [PyData.hasDictAll, h1, g1, Bool.or_self]
    · simp only [noListL, h2, g2, Bool.and_self]
    · simp only [PyData.canLayAll0, h3, g3, Bool.and_self]
end
theorem bt_shaped {d : PyData} (h : bt d = true) (hd : d.depth ≤ 60) : SeqAt.shaped d = true := by
  unfold SeqAt.shaped
  rw [(bt_plain d h).2.2, decide_eq_true (by omega)]
  rfl
mutual
theorem dp_of {K : PySem.W.Frag} {z0 : Addr} {H : Hp} : ∀ (d : PyData) {x : V}, bt d = true → Dat K z0 H d x → Dp K H x d
  | .str z, x, _, h => by unfold Dat at h; rw [h.1]; exact .str _
  | .tuple ds, x, b, h => by
    unfold Dat at h
    unfold bt at b
    obtain ⟨a, xs, rfl, h1, h2⟩ := h
    exact .tup h1 (dpL_of ds b h2)
  | .none, x, _, h => by unfold Dat at h; subst h; exact .non
  | .bool _, x, _, h => by unfold Dat at h; subst h; exact .bl _
  | .int _, x, _, h => by unfold Dat at h; rw [h.1]; exact .int _
  | .list _, _, h, _ => by unfold bt at h; cases h
  | .dict _, _, h, _ => by unfold bt at h; cases h
theorem dpL_of {K : PySem.W.Frag} {z0 : Addr} {H : Hp} : ∀ (ds : List PyData) {xs : List V}, btL ds = true → DatL K z0 H ds xs → DpAll K H xs ds
  | [], xs, _, h => by unfold DatL at h; subst h; exact .nil
  | d :: ds, xs, b, h => by
    unfold DatL at h
    unfold btL at b
    rw [Bool.and_eq_true] at b
    obtain ⟨x, r, rfl, h1, h2⟩ := h
    exact .cons (dp_of d b.1 h1) (dpL_of ds b.2 h2)
end
theorem dat_but {K : PySem.W.Frag} {H H' : Hp} {a : Addr} {c : Int} (e : But a H H') (P : PotAt H a c) {d : PyData} {x : V} (h : Dat K a H d x) : Dat K a H' d x := by
  obtain ⟨own, sd, n, hA, _⟩ := P
  refine dat_ext (fun b o q _ r => ?_) d h
  rcases r with r | r
  · exact e b o r q
  · by_cases z : b = a
    · subst z
      rw [hA] at q
      exact absurd (Option.some.inj q).symm (r _).1
    · exact e b o z q
theorem datL_but {K : PySem.W.Frag} {H H' : Hp} {a : Addr} {c : Int} (e : But a H H') (P : PotAt H a c) {ds : List PyData} {xs : List V} (h : DatL K a H ds xs) : DatL K a H' ds xs := by
  obtain ⟨own, sd, n, hA, _⟩ := P
  refine datL_ext (fun b o q _ r => ?_) ds h
  rcases r with r | r
  · exact e b o r q
  · by_cases z : b = a
    · subst z
      rw [hA] at q
      exact absurd (Option.some.inj q).symm (r _).1
    · exact e b o z q
theorem datL_same {K : PySem.W.Frag} {H H' : Hp} {a : Addr} (e : Same H H') {ds : List PyData} {xs : List V} (h : DatL K a H ds xs) : DatL K a H' ds xs := datL_ext (fun b o q _ _ => e b o q) ds h
theorem dat_tupI {K : PySem.W.Frag} {z0 : Addr} {H : Hp} {ds : List PyData} {x : V} (h : Dat K z0 H (.tuple ds) x) : ∃ t xs, x = .ref t ∧ SqT K H t xs ∧ DatL K z0 H ds xs := by
  unfold Dat at h
  exact h
/-! ### lists of data -/
section
variable {K : PySem.W.Frag} {a : Addr} {H : Hp}
theorem datL_app : ∀ {ds es : List PyData} {xs ys : List V}, DatL K a H ds xs → DatL K a H es ys → DatL K a H (ds ++ es) (xs ++ ys)
  | [], es, xs, ys, h, g => by unfold DatL at h; subst h; exact g
  | d :: ds, es, xs, ys, h, g => by
    unfold DatL at h
    obtain ⟨x, r, rfl, h1, h2⟩ := h
    exact datL_cons h1 (datL_app h2 g)
theorem datL_take : ∀ (n : Nat) {ds : List PyData} {xs : List V}, DatL K a H ds xs → DatL K a H (ds.take n) (xs.take n)
  | 0, _, _, _ => by simpa using datL_nil
  | n + 1, [], xs, h => by unfold DatL at h; subst h; simpa using datL_nil
  | n + 1, d :: ds, xs, h => by
    unfold DatL at h
    obtain ⟨x, r, rfl, h1, h2⟩ := h
    exact datL_cons h1 (datL_take n h2)
theorem datL_drop : ∀ (n : Nat) {ds : List PyData} {xs : List V}, DatL K a H ds xs → DatL K a H (ds.drop n) (xs.drop n)
  | 0, _, _, h => by simpa using h
  | n + 1, [], xs, h => by unfold DatL at h; subst h; simpa using datL_nil
  | n + 1, d :: ds, xs, h => by
    unfold DatL at h
    obtain ⟨x, r, rfl, h1, h2⟩ := h
    exact datL_drop n h2
theorem datL_rev : ∀ {ds : List PyData} {xs : List V}, DatL K a H ds xs → DatL K a H ds.reverse xs.reverse
  | [], xs, h => by unfold DatL at h; subst h; simpa using datL_nil
  | d :: ds, xs, h => by
    unfold DatL at h
    obtain ⟨x, r, rfl, h1, h2⟩ := h
    rw [List.reverse_cons, List.reverse_cons]
    exact datL_app (datL_rev h2) (datL_cons h1 datL_nil)
theorem datL_at : ∀ {ds : List PyData} {xs : List V} {i : Nat}, DatL K a H ds xs → i < xs.length → ∃ d x, ds[i]? = some d ∧ xs[i]? = some x ∧ Dat K a H d x
  | [], xs, i, h, hi => by unfold DatL at h; subst h; simp at hi
  | d :: ds, xs, 0, h, hi => by
    unfold DatL at h
    obtain ⟨x, r, rfl, h1, h2⟩ := h
    exact ⟨d, x, rfl, rfl, h1⟩
  | d :: ds, xs, i + 1, h, hi => by
    unfold DatL at h
    obtain ⟨x, r, rfl, h1, h2⟩ := h
    obtain ⟨d', x', e1, e2, e3⟩ := datL_at (i := i) h2 (by simpa using hi)
    exact ⟨d', x', e1, e2, e3⟩
end
theorem btL_mem : ∀ {ds : List PyData} {d : PyData}, btL ds = true → d ∈ ds → bt d = true
  | e :: ds, d, h, hm => by
    unfold btL at h
    rw [Bool.and_eq_true] at h
    rcases List.mem_cons.mp hm with rfl | hm
    · exact h.1
    · exact btL_mem h.2 hm
theorem capL_app : ∀ (ds es : List PyData), capL (ds ++ es) = capL ds + capL es
  | [], es => by simp [capL]
  | d :: ds, es => by simp only [List.cons_append, capL, capL_app ds es]; omega
theorem capL_rev : ∀ (ds : List PyData), capL ds.reverse = capL ds
  | [] => rfl
  | d :: ds => by rw [List.reverse_cons, capL_app, capL_rev ds]; simp only [capL]; omega
theorem capL_part (n : Nat) (ds : List PyData) : capL (ds.take n) + capL (ds.drop n) = capL ds := by
  rw [← capL_app, List.take_append_drop]
theorem capL_at {ds : List PyData} {i : Nat} {d : PyData} (h : ds[i]? = some d) : capL (ds.take i) + (cap d + 2) + capL (ds.drop (i + 1)) = capL ds := by
  have hi := (List.getElem?_eq_some_iff.mp h).1
  have e := capL_part i ds
  rw [List.drop_eq_getElem_cons hi] at e
  have : ds[i] = d := (List.getElem?_eq_some_iff.mp h).2
  rw [this] at e
  simp only [capL] at e
  omega
theorem depthL_app : ∀ (ds es : List PyData), PyData.depthAll (ds ++ es) = max (PyData.depthAll ds) (PyData.depthAll es)
  | [], es => by simp [PyData.depthAll]
  | d :: ds, es => by simp only [List.cons_append, PyData.depthAll, depthL_app ds es]; omega
theorem depthL_rev : ∀ (ds : List PyData), PyData.depthAll ds.reverse = PyData.depthAll ds
  | [] => rfl
  | d :: ds => by rw [List.reverse_cons, depthL_app, depthL_rev ds]; simp only [PyData.depthAll]; omega
theorem depthL_take (n : Nat) (ds : List PyData) : PyData.depthAll (ds.take n) ≤ PyData.depthAll ds := by
  have := depthL_app (ds.take n) (ds.drop n)
  rw [List.take_append_drop] at this
  omega
theorem depthL_drop (n : Nat) (ds : List PyData) : PyData.depthAll (ds.drop n) ≤ PyData.depthAll ds := by
  have := depthL_app (ds.take n) (ds.drop n)
  rw [List.take_append_drop] at this
  omega
theorem depthL_mem {ds : List PyData} {d : PyData} (h : d ∈ ds) : d.depth ≤ PyData.depthAll ds := PyData.depth_le_depthAll ds d h
theorem hasDictL_app : ∀ (ds es : List PyData), PyData.hasDictAll (ds ++ es) = (PyData.hasDictAll ds || PyData.hasDictAll es)
  | [], es => by simp [PyData.hasDictAll]
  | d :: ds, es => by simp only [List.cons_append, PyData.hasDictAll, hasDictL_app ds es, Bool.or_assoc]
theorem noListL_app : ∀ (ds es : List PyData), noListL (ds ++ es) = (noListL ds && noListL es)
  | [], es => by simp [noListL]
  | d :: ds, es => by simp only [List.cons_append, noListL, noListL_app ds es, Bool.and_assoc]
theorem btL_app : ∀ (ds es : List PyData), btL (ds ++ es) = (btL ds && btL es)
  | [], es => by simp [btL]
  | d :: ds, es => by simp only [List.cons_append, btL, btL_app ds es, Bool.and_assoc]
theorem btL_part {ds : List PyData} (h : btL ds = true) (n : Nat) : btL (ds.take n) = true ∧ btL (ds.drop n) = true := by
  rw [← List.take_append_drop n ds, btL_app, Bool.and_eq_true] at h
  exact h
theorem btL_rev : ∀ {ds : List PyData}, btL ds = true → btL ds.reverse = true
  | [], _ => rfl
  | d :: ds, h => by
    unfold btL at h
    rw [Bool.and_eq_true] at h
    rw [List.reverse_cons, btL_app, btL_rev h.2]
    simp [btL, h.1]
theorem cap_pos (d : PyData) : 2 ≤ cap d := by cases d <;> unfold cap <;> omega
theorem capL_len : ∀ (ds : List PyData), 4 * ds.length ≤ capL ds
  | [] => by simp [capL]
  | d :: ds => by
    have := cap_pos d
    have := capL_len ds
    simp only [List.length_cons, capL]
    omega
/-! ### tuples put together and cut, whichever object it is -/
theorem r_catA {K : PySem.W.Frag} {H : Hp} {Q : VK} {p q : Addr} {xs ys : List V} (h1 : SqT K H p xs) (h2 : SqT K H q ys) (hz : xs.length + ys.length ≤ 1000000) (h : ∀ r H', Same H H' → SqT K H' r (xs ++ ys) → Q (.ref r) H') : rCatA K (.ref p) (.ref q) H Q := by
  refine ⟨p, q, xs, ys, rfl, rfl, h1, h2, le_line hz, fun e => ?_, fun _ e => ?_, fun _ _ r hr => h r _ (same_new hr) (SqT.of upd_same)⟩
  · subst e
    exact h _ _ (Same.refl _) h2
  · subst e
    rw [List.append_nil] at h
    exact h _ _ (Same.refl _) h1
theorem r_slA {K : PySem.W.Frag} {H : Hp} {Q : VK} {p : Addr} {xs : List V} {lo hi : Option Int} (h1 : SqT K H p xs) (h : ∀ r H', Same H H' → SqT K H' r (cutV xs lo hi) → Q (.ref r) H') : rSlA K (.ref p) lo hi H Q := by
  refine ⟨p, xs, rfl, h1, fun e => ?_, fun _ r hr => h r _ (same_new hr) (SqT.of upd_same)⟩
  have ec : cutV xs lo hi = xs := by
    unfold cutV
    rw [e.1, e.2]
    simp
  rw [ec] at h
  exact h _ _ (Same.refl _) h1
theorem cutV_to {xs : List V} {n : Nat} : cutV xs none (some (n : Int)) = xs.take n := by
  unfold cutV
  rw [HT.sIx_none, HT.sIx_nat]
  simp only [List.drop_zero, Nat.sub_zero]
  by_cases h : n ≤ xs.length
  · rw [Nat.min_eq_left h]
  · rw [Nat.min_eq_right (by omega), List.take_of_length_le (Nat.le_refl _), List.take_of_length_le (by omega)]
theorem cutV_from {xs : List V} {n : Nat} (h : n ≤ xs.length) : cutV xs (some (n : Int)) none = xs.drop n := by
  unfold cutV
  rw [HT.sIx_none, HT.sIx_nat, Nat.min_eq_left h]
  exact List.take_of_length_le (by rw [List.length_drop]; omega)
theorem cutV_dl {xs : List V} : cutV xs none (some (-1)) = xs.take (xs.length - 1) := by
  unfold cutV
  rw [HT.sIx_none]
  have e : HT.sIx xs.length xs.length (some (-1)) = xs.length - 1 := by
    show (if (-1 : Int) < 0 then ((-1 : Int) + (xs.length : Int)).toNat else min (-1 : Int).toNat xs.length) = xs.length - 1
    rw [if_pos (by decide)]
    omega
  rw [e]
  simp
theorem cutV_lst {xs : List V} : cutV xs (some (-1)) none = xs.drop (xs.length - 1) := by
  unfold cutV
  rw [HT.sIx_none]
  have e : HT.sIx xs.length 0 (some (-1)) = xs.length - 1 := by
    show (if (-1 : Int) < 0 then ((-1 : Int) + (xs.length : Int)).toNat else min (-1 : Int).toNat xs.length) = xs.length - 1
    rw [if_pos (by decide)]
    omega
  rw [e]
  exact List.take_of_length_le (by rw [List.length_drop]; omega)
/-! ### a def that is there: other promises -/
theorem Ok.imp {P : Program} {w : World} {K : PySem.W.Frag} {mg : Str → Option Value} {base : Heap} {CX : CXT} {k : Nat} {x : Str} {st : Stmt} {ps : List Str} {sp sp' : Sp} (o : Ok P w K mg base CX k x st ps sp) (h : ∀ vs H Q E, sp' vs H Q E → sp vs H Q E) : Ok P w K mg base CX k x st ps sp' := by
  obtain ⟨f, fd, g, D, b, F⟩ := o.ex
  exact ⟨⟨f, fd, g, D, b, F.imp h⟩⟩
theorem Ok.mono {P : Program} {w : World} {K : PySem.W.Frag} {mg : Str → Option Value} {base : Heap} {CX : CXT} {j k : Nat} {x : Str} {st : Stmt} {ps : List Str} {sp : Sp} (o : Ok P w K mg base CX j x st ps sp) (h : j ≤ k) : Ok P w K mg base CX k x st ps sp := by
  obtain ⟨f, fd, g, D, b, F⟩ := o.ex
  exact ⟨⟨f, fd, g, D, b, F.mono h⟩⟩
theorem Ok.or {P : Program} {w : World} {K : PySem.W.Frag} {mg : Str → Option Value} {base : Heap} {CX : CXT} {k : Nat} {x : Str} {st : Stmt} {ps : List Str} {sp sp' : Sp} (o : Ok P w K mg base CX k x st ps sp) (o' : Ok P w K mg base CX k x st ps sp') : Ok P w K mg base CX k x st ps (fun vs H Q E => sp vs H Q E ∨ sp' vs H Q E) := by
  obtain ⟨f, fd, g, D, b, F⟩ := o.ex
  have F' := o'.at g D
  refine ⟨⟨f, fd, g, D, b, ⟨fun vs H Q E h => h.elim (F.len vs H Q E) (F'.len vs H Q E), fun A outer s H args us vs Q E hr e0 bt r h => h.elim (F.run A outer s H args us vs Q E hr e0 bt r) (F'.run A outer s H args us vs Q E hr e0 bt r)⟩⟩⟩
/-! ### lists of small data, made piece by piece -/
section
variable {K : PySem.W.Frag} {a : Addr} {n m : Nat} {H0 B G G' : Hp} {c c' : Int} {L : List V} {x y : V} {d : PyData}
theorem sml_same (e : Same G G') (h : Sml K a G n m d x) : Sml K a G' n m d x := ⟨dat_same e h.1, h.2⟩
theorem sml_but (e : But a G G') (P : PotAt G a c) (h : Sml K a G n m d x) : Sml K a G' n m d x := ⟨dat_but e P h.1, h.2⟩
theorem sml_mono {n' m' : Nat} (h : Sml K a G n m d x) (hn : n ≤ n') (hm : m ≤ m') : Sml K a G n' m' d x := ⟨h.1, Nat.le_trans h.2.1 hm, Nat.le_trans h.2.2.1 hn, h.2.2.2⟩
/-- H0 where it began, G where it is, c how many draws, L what has been made -/
structure St (K : PySem.W.Frag) (a : Addr) (n m : Nat) (H0 : Hp) (c : Int) (L : List V) (G : Hp) : Prop where
  b : But a H0 G
  p : PotAt G a c
  g : ∀ x ∈ L, ∃ d, Sml K a G n m d x
theorem St.start (b : But a H0 G) (p : PotAt G a c) : St K a n m H0 c [] G := ⟨b, p, fun x h => by cases h⟩
theorem St.same (s : St K a n m H0 c L G) (e : Same G G') : St K a n m H0 c L G' := ⟨s.b.trans (But.of e), s.p.same e, fun x h => let ⟨d, z⟩ := s.g x h; ⟨d, sml_same e z⟩⟩
theorem St.but (s : St K a n m H0 c L G) (e : But a G G') (P : PotAt G' a c') : St K a n m H0 c' L G' := ⟨s.b.trans e, P, fun x h => let ⟨d, z⟩ := s.g x h; ⟨d, sml_but e s.p z⟩⟩
theorem St.add (s : St K a n m H0 c L G) (h : Sml K a G n m d y) : St K a n m H0 c (L ++ [y]) G := ⟨s.b, s.p, fun x hx => (List.mem_append.mp hx).elim (s.g x) fun z => by rw [List.mem_singleton.mp z]; exact ⟨d, h⟩⟩
theorem St.clear (s : St K a n m H0 c L G) : St K a n m H0 c [] G := ⟨s.b, s.p, fun x h => by cases h⟩
theorem dat_pair {t : Addr} {h r : List Nat} (D : Dat K a G (.tuple [.str (S h), .str (S r)]) (.ref t)) : SqT K G t [.str (S h), .str (S r)] := by
  obtain ⟨t', xs, e, hT, hL⟩ := dat_tupI D
  obtain rfl := V.ref.inj e
  obtain ⟨x1, x2, rfl, h1, h2⟩ := datL_two hL
  unfold Dat at h1 h2
  rw [h1.1, h2.1] at hT
  exact hT
theorem tup_neP {H : Hp} {t a : Addr} {xs : List V} {c : Int} (h : H t = some (.tup xs)) (p : PotAt H a c) : t ≠ a := by
  obtain ⟨own, sd, n, h1, _⟩ := p
  intro z
  subst z
  rw [h] at h1
  cases h1
theorem cap_S (l : List Nat) : cap (.str (S l)) = 10 * l.length + 2 := by unfold cap; rw [S_len]
theorem bt_S {l : List Nat} (h : ∀ c ∈ l, c < 128 ∧ c ≠ 10) (hl : l.length ≤ 400) : bt (.str (S l)) = true := by
  unfold bt
  rw [S_len, S_codes, Bool.and_eq_true, decide_eq_true_eq, List.all_eq_true]
  exact ⟨hl, fun c hc => by have := h c hc; rw [Bool.and_eq_true, decide_eq_true_eq, Bool.not_eq_true', decide_eq_false_iff_not]; exact this⟩
theorem wd_asc {l : List Nat} (h : Wd l) : ∀ c ∈ l, c < 128 ∧ c ≠ 10 := fun c hc => by rcases h c hc with rfl | rfl | rfl <;> decide
theorem dat_W {l : List Nat} (h : ∀ c ∈ l, c < 128) : Dat K a G (.str (S l)) (.str (S l)) := dat_S fun c hc => Nat.lt_trans (h c hc) (by decide)
theorem asc_rep {n c : Nat} (h : c < 128) : ∀ x ∈ List.replicate n c, x < 128 := fun x hx => by rw [(List.mem_replicate.mp hx).2]; exact h
end
theorem r_orT {K : PySem.W.Frag} {ta tb : TE} {σ : L2.St} {H : Hp} {Q : VK} (h : ta σ H fun x H1 => ∃ k, TruV K x H1 k ∧ if k = true then Q x H1 else tb σ H1 Q) : tOrT K ta tb σ H Q := h
theorem ofS_pts (t : String) : okPts (Str.ofString t) := by
  unfold okPts
  intro c hc
  have h : c ∈ t.toList.map Char.toNat := by
    rw [PyProof.Rows.signs_ofString] at hc
    exact hc
  obtain ⟨ch, _, rfl⟩ := List.mem_map.mp h
  have h2 : ch.toNat < 1114112 := by
    have := ch.valid
    unfold UInt32.isValidChar Nat.isValidChar at this
    show ch.val.toNat < 1114112
    omega
  exact Nat.lt_trans h2 (by decide)
theorem dat_txt {K : PySem.W.Frag} {a : Addr} {G : Hp} (t : String) : Dat K a G (.str (Str.ofString t)) (.str (Str.ofString t)) := by
  unfold Dat
  exact ⟨rfl, ofS_pts t⟩
theorem small_txt {i : Int} (h0 : 0 ≤ i) (h1 : i < 1000000) : cap (.str (Str.ofString (toString i))) ≤ 1000 := by
  have e := int_text_length_le (k := 20) (by decide) (log2_le (n := i.natAbs) (k := 20) (by omega) (by decide))
  unfold cap
  rw [PySem.ofString_length]
  omega
theorem big_log {i : Int} (h : i.natAbs < 2 ^ 1000) : i.natAbs.log2 < 1920 := Nat.lt_trans (log2_le h (by decide)) (by decide)
theorem big_log1 {i : Int} {k : Nat} (h : k < 2 ^ 1000) (h2 : i.natAbs ≤ k + 1) : i.natAbs.log2 < 1920 := by
  have e : (2 : Nat) ^ 1001 = 2 * 2 ^ 1000 := by decide +kernel
  have l : i.natAbs < 2 ^ 1001 := by omega
  exact Nat.lt_trans (log2_le l (by decide)) (by decide)
end Tf

set_option Elab.async false
set_option linter.all false
set_option maxRecDepth 100000
set_option maxHeartbeats 4000000
set_option pp.maxSteps 400
set_option exponentiation.threshold 4000
local macro_rules | `(tactic| walk_at "rr") => `(tactic| with_reducible first
  | refine Tf.r_seq ?_ | refine Tf.r_asg ?_ | refine Tf.r_name ?_ | refine Tf.r_ret ?_ | refine Tf.r_drop ?_ | refine Tf.r_next ?_ | refine Tf.r_ifS ?_ | refine Tf.r_op ?_ | refine Tf.r_un ?_
  | refine Tf.r_c ?_ | refine Tf.r_I0 ?_ | refine Tf.r_U ?_ | refine Tf.r_cb ?_ | refine Tf.r_cons ?_ | refine Tf.r_nil ?_ | refine Tf.r_call ?_ | refine Tf.r_callN ?_ | refine Tf.r_test ?_ | refine Tf.r_B ?_
  | refine Tf.r_k ?_ | refine Tf.r_and ?_ | refine Tf.r_or ?_ | refine Tf.r_not ?_ | refine Tf.r_andV ?_ | refine Tf.r_orV ?_ | refine Tf.r_notV ?_ | refine Tf.r_if ?_ | refine Tf.r_chain ?_ | refine Tf.r_tup ?_
  | refine Tf.r_lst ?_ | refine Tf.r_par ?_ | refine Tf.r_sl ?_ | refine Tf.r_nopart ?_ | refine Tf.r_part ?_ | refine Tf.r_i ?_ | refine Tf.r_int ?_ | refine Tf.r_intb ?_ | refine Tf.r_isT ?_ | refine Tf.r_noT ?_ | refine Tf.r_isN ?_ | refine Tf.r_notN ?_ | refine Tf.r_inC ?_ | refine Tf.r_abs ?_ | refine Tf.r_max2 ?_ | refine Tf.r_min2 ?_
  | refine Tf.r_for ?_ | refine Tf.r_iStr ?_ | refine Tf.r_iList ?_ | refine Tf.r_iTup ?_ | refine Tf.r_tM1 ?_ | refine Tf.r_lc ?_ | refine Tf.r_yes ?_ | refine Tf.r_revS ?_ | refine Tf.r_notB ?_ | refine Tf.r_isB ?_ | refine Tf.r_iRng1 ?_ | refine Tf.r_iZip ?_ | refine Tf.r_iRng2 ?_ | refine Tf.r_then ?_ | refine Tf.r_gSub ?_ | refine Tf.r_lstRg ?_ | refine Tf.r_rg1 ?_ | refine Tf.r_gCons ?_ | refine Tf.r_gNil ?_ | refine Tf.r_nt ?_ | refine Tf.r_nf ?_ | refine Tf.r_true ?_ | refine Tf.r_false ?_)
local macro_rules | `(tactic| walk_at "rv") => `(tactic| ((with_reducible refine Tf.r_var (v := ?v) ?h ?_); (case' h => exact rfl)))
local macro_rules | `(tactic| walk_at "re") => `(tactic| first
  | ((with_reducible refine Tf.r_eq ?h ?_); (case' h => exact rfl)) | ((with_reducible refine Tf.r_ne ?h ?_); (case' h => exact rfl)))
local macro_rules | `(tactic| walk_at "ri") => `(tactic| first
  | ((with_reducible refine Tf.r_isiS (b := false) ?h ?_); (case' h => (show L2.kitB _ _ = some _; decide +kernel)))
  | ((with_reducible refine Tf.r_isiS (b := true) ?h ?_); (case' h => (show L2.kitB _ _ = some _; decide +kernel))))
local macro_rules | `(tactic| walk_at "r") => `(tactic| repeat (first | walk_at "rr" | walk_at "rv" | walk_at "re" | walk_at "ri"))
local macro_rules | `(tactic| walk_at "rs") => `(tactic| repeat (with_reducible first | refine Tf.r_seq ?_ | refine Tf.r_asg ?_ | refine Tf.r_name ?_ | refine Tf.r_next ?_))
local macro_rules | `(tactic| walk_at "rq") => `(tactic| with_reducible refine Tf.r_seq ?_)

namespace K06
open PySem PySem.Spec PyProof.Rows L2 Tf LamX
def top (i : Nat) : Stmt := PySem.Challenge.pw_twofarplayers_k06_losses_words_and_numbe.main.body.getD i (.Pass ⟨0, 0, 0, 0⟩)
def tf : List He.Defn := [("_law_right", none)]
theorem mem_Lright : (("_law_right", none) : He.Defn) ∈ tf := List.mem_cons_self
abbrev s_init : Stmt := clsMeth (top 1) 0
theorem sc_init : FnScope ["self", "value"] ["self", "value"] (defScope s_init) := ⟨rfl, rfl, rfl, by decide +kernel, rfl, by decide +kernel, by decide +kernel⟩
abbrev s_Lpot : Stmt := top 27
theorem sc_Lpot : FnScope ["script", "at", "cell", "own", "small"] ["script", "at"] (defScope s_Lpot) := ⟨rfl, rfl, rfl, by decide +kernel, rfl, by decide +kernel, by decide +kernel⟩
abbrev s_Ltake : Stmt := top 28
theorem sc_Ltake : FnScope ["pot", "upto", "prime", "blend", "digit"] ["pot", "upto"] (defScope s_Ltake) := ⟨rfl, rfl, rfl, by decide +kernel, rfl, by decide +kernel, by decide +kernel⟩
abbrev s_Lof : Stmt := top 29
theorem sc_Lof : FnScope ["pot", "some"] ["pot", "some"] (defScope s_Lof) := ⟨rfl, rfl, rfl, by decide +kernel, rfl, by decide +kernel, by decide +kernel⟩
abbrev s_Lodd : Stmt := top 37
theorem sc_Lodd : FnScope ["pot", "some"] ["pot"] (defScope s_Lodd) := ⟨rfl, rfl, rfl, by decide +kernel, rfl, by decide +kernel, by decide +kernel⟩
abbrev s_Lsome : Stmt := top 30
theorem sc_Lsome : FnScope ["pot", "pool", "many", "lap", "rests", "found"] ["pot", "pool", "many"] (defScope s_Lsome) := ⟨rfl, rfl, rfl, by decide +kernel, rfl, by decide +kernel, by decide +kernel⟩
abbrev s_Lbent : Stmt := top 38
theorem sc_Lbent : FnScope ["pot", "value", "at", "some", "sign"] ["pot", "value"] (defScope s_Lbent) := ⟨rfl, rfl, rfl, by decide +kernel, rfl, by decide +kernel, by decide +kernel⟩
abbrev s_is_made_of_fates : Stmt := top 10
theorem sc_is_made_of_fates : FnScope ["value", "sign"] ["value"] (defScope s_is_made_of_fates) := ⟨rfl, rfl, rfl, by decide +kernel, rfl, by decide +kernel, by decide +kernel⟩
abbrev s_is_word : Stmt := top 11
theorem sc_is_word : FnScope ["value"] ["value"] (defScope s_is_word) := ⟨rfl, rfl, rfl, by decide +kernel, rfl, by decide +kernel, by decide +kernel⟩
abbrev s_need_word : Stmt := top 14
theorem sc_need_word : FnScope ["value"] ["value"] (defScope s_need_word) := ⟨rfl, rfl, rfl, by decide +kernel, rfl, by decide +kernel, by decide +kernel⟩
abbrev s_is_whole : Stmt := top 9
theorem sc_is_whole : FnScope ["value"] ["value"] (defScope s_is_whole) := ⟨rfl, rfl, rfl, by decide +kernel, rfl, by decide +kernel, by decide +kernel⟩
abbrev s_need_number : Stmt := top 16
theorem sc_need_number : FnScope ["value", "most"] ["value", "most"] (defScope s_need_number) := ⟨rfl, rfl, rfl, by decide +kernel, rfl, by decide +kernel, by decide +kernel⟩
abbrev s_is_long_loss : Stmt := top 12
theorem sc_is_long_loss : FnScope ["value", "word"] ["value"] (defScope s_is_long_loss) := ⟨rfl, rfl, rfl, by decide +kernel, rfl, by decide +kernel, by decide +kernel⟩
abbrev s_is_loss : Stmt := top 13
theorem sc_is_loss : FnScope ["value", "word"] ["value"] (defScope s_is_loss) := ⟨rfl, rfl, rfl, by decide +kernel, rfl, by decide +kernel, by decide +kernel⟩
abbrev s_need_loss : Stmt := top 15
theorem sc_need_loss : FnScope ["value"] ["value"] (defScope s_need_loss) := ⟨rfl, rfl, rfl, by decide +kernel, rfl, by decide +kernel, by decide +kernel⟩
abbrev s_shortest_ring : Stmt := top 18
theorem sc_shortest_ring : FnScope ["ring", "size"] ["ring"] (defScope s_shortest_ring) := ⟨rfl, rfl, rfl, by decide +kernel, rfl, by decide +kernel, by decide +kernel⟩
abbrev s_least_form : Stmt := top 19
theorem sc_least_form : FnScope ["head", "ring"] ["head", "ring"] (defScope s_least_form) := ⟨rfl, rfl, rfl, by decide +kernel, rfl, by decide +kernel, by decide +kernel⟩
abbrev s_first_letters : Stmt := top 20
theorem sc_first_letters : FnScope ["loss", "many", "head", "ring"] ["loss", "many"] (defScope s_first_letters) := ⟨rfl, rfl, rfl, by decide +kernel, rfl, by decide +kernel, by decide +kernel⟩
abbrev s_least : Stmt := top 21
theorem sc_least : FnScope ["loss", "head", "ring"] ["loss"] (defScope s_least) := ⟨rfl, rfl, rfl, by decide +kernel, rfl, by decide +kernel, by decide +kernel⟩
abbrev s_are_alike : Stmt := top 22
theorem sc_are_alike : FnScope ["one", "other"] ["one", "other"] (defScope s_are_alike) := ⟨rfl, rfl, rfl, by decide +kernel, rfl, by decide +kernel, by decide +kernel⟩
abbrev s_letters_of : Stmt := top 23
theorem sc_letters_of : FnScope ["loss", "many"] ["loss", "many"] (defScope s_letters_of) := ⟨rfl, rfl, rfl, by decide +kernel, rfl, by decide +kernel, by decide +kernel⟩
abbrev s_tail : Stmt := top 24
theorem sc_tail : FnScope ["loss", "ring"] ["loss"] (defScope s_tail) := ⟨rfl, rfl, rfl, by decide +kernel, rfl, by decide +kernel, by decide +kernel⟩
abbrev s_shifted : Stmt := top 25
theorem sc_shifted : FnScope ["loss", "word", "head", "ring"] ["loss", "word"] (defScope s_shifted) := ⟨rfl, rfl, rfl, by decide +kernel, rfl, by decide +kernel, by decide +kernel⟩
abbrev s_Lheard : Stmt := top 31
theorem sc_Lheard : FnScope ["call", "error", "caught", "given"] ["call"] (defScope s_Lheard) := ⟨rfl, rfl, rfl, by decide +kernel, rfl, by decide +kernel, by decide +kernel⟩
abbrev s_Lis_int : Stmt := top 32
theorem sc_Lis_int : FnScope ["value", "low", "high"] ["value", "low", "high"] (defScope s_Lis_int) := ⟨rfl, rfl, rfl, by decide +kernel, rfl, by decide +kernel, by decide +kernel⟩
abbrev s_Llaw_is_word : Stmt := top 33
theorem sc_Llaw_is_word : FnScope ["value", "low", "high", "sign"] ["value", "low", "high"] (defScope s_Llaw_is_word) := ⟨rfl, rfl, rfl, by decide +kernel, rfl, by decide +kernel, by decide +kernel⟩
abbrev s_Llaw_is_loss : Stmt := top 34
theorem sc_Llaw_is_loss : FnScope ["value"] ["value"] (defScope s_Llaw_is_loss) := ⟨rfl, rfl, rfl, by decide +kernel, rfl, by decide +kernel, by decide +kernel⟩
abbrev s_Llaw_word_drawn : Stmt := top 35
theorem sc_Llaw_word_drawn : FnScope ["pot", "most", "lap"] ["pot", "most"] (defScope s_Llaw_word_drawn) := ⟨rfl, rfl, rfl, by decide +kernel, rfl, by decide +kernel, by decide +kernel⟩
abbrev s_Llaw_loss_drawn : Stmt := top 36
theorem sc_Llaw_loss_drawn : FnScope ["pot", "head", "circle"] ["pot"] (defScope s_Llaw_loss_drawn) := ⟨rfl, rfl, rfl, by decide +kernel, rfl, by decide +kernel, by decide +kernel⟩
abbrev s_Ldue : Stmt := top 44
theorem sc_Ldue : FnScope ["word", "is_right", "value"] ["word", "is_right", "value"] (defScope s_Ldue) := ⟨rfl, rfl, rfl, by decide +kernel, rfl, by decide +kernel, by decide +kernel⟩
abbrev s_Lis_raised : Stmt := top 43
theorem sc_Lis_raised : FnScope ["call", "due", "may_be_long", "caught", "marks"] ["call", "due", "may_be_long"] (defScope s_Lis_raised) := ⟨rfl, rfl, rfl, by decide +kernel, rfl, by decide +kernel, by decide +kernel⟩
abbrev s_Lloss : Stmt := top 42
theorem sc_Lloss : FnScope ["pot", "loss", "some"] ["pot"] (defScope s_Lloss) := ⟨rfl, rfl, rfl, by decide +kernel, rfl, by decide +kernel, by decide +kernel⟩
abbrev s_Lright : Stmt := top 45
theorem sc_Lright : FnScope ["pot", "lap", "number", "last", "word", "one", "other", "first", "second", "value"] ["pot"] (defScope s_Lright) := ⟨rfl, rfl, rfl, by decide +kernel, rfl, by decide +kernel, by decide +kernel⟩
abbrev s_law : Stmt := top 46
theorem sc_law : FnScope ["script"] ["script"] (defScope s_law) := ⟨rfl, rfl, rfl, by decide +kernel, rfl, by decide +kernel, by decide +kernel⟩
structure Txt (K : PySem.W.Frag) (mg : Str → Option Value) : Prop where
  d_Lpot : ∃ fd, FnP K "_law_pot" s_Lpot (He.ga K "_law_pot") fd
  g__law_pot : mg "_law_pot" = some (.ref (He.ga K "_law_pot"))
  d_Ltake : ∃ fd, FnP K "_law_take" s_Ltake (He.ga K "_law_take") fd
  g__law_take : mg "_law_take" = some (.ref (He.ga K "_law_take"))
  d_Lof : ∃ fd, FnP K "_law_of" s_Lof (He.ga K "_law_of") fd
  g__law_of : mg "_law_of" = some (.ref (He.ga K "_law_of"))
  d_Lodd : ∃ fd, FnP K "_law_odd" s_Lodd (He.ga K "_law_odd") fd
  g__law_odd : mg "_law_odd" = some (.ref (He.ga K "_law_odd"))
  d_Lsome : ∃ fd, FnP K "_law_some" s_Lsome (He.ga K "_law_some") fd
  g__law_some : mg "_law_some" = some (.ref (He.ga K "_law_some"))
  d_Lbent : ∃ fd, FnP K "_law_bent" s_Lbent (He.ga K "_law_bent") fd
  g__law_bent : mg "_law_bent" = some (.ref (He.ga K "_law_bent"))
  d_is_made_of_fates : ∃ fd, FnP K "is_made_of_fates" s_is_made_of_fates (He.ga K "is_made_of_fates") fd
  g_is_made_of_fates : mg "is_made_of_fates" = some (.ref (He.ga K "is_made_of_fates"))
  d_is_word : ∃ fd, FnP K "is_word" s_is_word (He.ga K "is_word") fd
  g_is_word : mg "is_word" = some (.ref (He.ga K "is_word"))
  d_need_word : ∃ fd, FnP K "need_word" s_need_word (He.ga K "need_word") fd
  g_need_word : mg "need_word" = some (.ref (He.ga K "need_word"))
  d_is_whole : ∃ fd, FnP K "is_whole" s_is_whole (He.ga K "is_whole") fd
  g_is_whole : mg "is_whole" = some (.ref (He.ga K "is_whole"))
  d_need_number : ∃ fd, FnP K "need_number" s_need_number (He.ga K "need_number") fd
  g_need_number : mg "need_number" = some (.ref (He.ga K "need_number"))
  d_is_long_loss : ∃ fd, FnP K "is_long_loss" s_is_long_loss (He.ga K "is_long_loss") fd
  g_is_long_loss : mg "is_long_loss" = some (.ref (He.ga K "is_long_loss"))
  d_is_loss : ∃ fd, FnP K "is_loss" s_is_loss (He.ga K "is_loss") fd
  g_is_loss : mg "is_loss" = some (.ref (He.ga K "is_loss"))
  d_need_loss : ∃ fd, FnP K "need_loss" s_need_loss (He.ga K "need_loss") fd
  g_need_loss : mg "need_loss" = some (.ref (He.ga K "need_loss"))
  d_shortest_ring : ∃ fd, FnP K "shortest_ring" s_shortest_ring (He.ga K "shortest_ring") fd
  g_shortest_ring : mg "shortest_ring" = some (.ref (He.ga K "shortest_ring"))
  d_least_form : ∃ fd, FnP K "least_form" s_least_form (He.ga K "least_form") fd
  g_least_form : mg "least_form" = some (.ref (He.ga K "least_form"))
  d_first_letters : ∃ fd, FnP K "first_letters" s_first_letters (He.ga K "first_letters") fd
  g_first_letters : mg "first_letters" = some (.ref (He.ga K "first_letters"))
  d_least : ∃ fd, FnP K "least" s_least (He.ga K "least") fd
  g_least : mg "least" = some (.ref (He.ga K "least"))
  d_are_alike : ∃ fd, FnP K "are_alike" s_are_alike (He.ga K "are_alike") fd
  g_are_alike : mg "are_alike" = some (.ref (He.ga K "are_alike"))
  d_letters_of : ∃ fd, FnP K "letters_of" s_letters_of (He.ga K "letters_of") fd
  g_letters_of : mg "letters_of" = some (.ref (He.ga K "letters_of"))
  d_tail : ∃ fd, FnP K "tail" s_tail (He.ga K "tail") fd
  g_tail : mg "tail" = some (.ref (He.ga K "tail"))
  d_shifted : ∃ fd, FnP K "shifted" s_shifted (He.ga K "shifted") fd
  g_shifted : mg "shifted" = some (.ref (He.ga K "shifted"))
  d_Lheard : ∃ fd, FnP K "_law_heard" s_Lheard (He.ga K "_law_heard") fd
  g__law_heard : mg "_law_heard" = some (.ref (He.ga K "_law_heard"))
  d_Lis_int : ∃ fd, FnP K "_law_is_int" s_Lis_int (He.ga K "_law_is_int") fd
  g__law_is_int : mg "_law_is_int" = some (.ref (He.ga K "_law_is_int"))
  d_Llaw_is_word : ∃ fd, FnP K "_law_law_is_word" s_Llaw_is_word (He.ga K "_law_law_is_word") fd
  g__law_law_is_word : mg "_law_law_is_word" = some (.ref (He.ga K "_law_law_is_word"))
  d_Llaw_is_loss : ∃ fd, FnP K "_law_law_is_loss" s_Llaw_is_loss (He.ga K "_law_law_is_loss") fd
  g__law_law_is_loss : mg "_law_law_is_loss" = some (.ref (He.ga K "_law_law_is_loss"))
  d_Llaw_word_drawn : ∃ fd, FnP K "_law_law_word_drawn" s_Llaw_word_drawn (He.ga K "_law_law_word_drawn") fd
  g__law_law_word_drawn : mg "_law_law_word_drawn" = some (.ref (He.ga K "_law_law_word_drawn"))
  d_Llaw_loss_drawn : ∃ fd, FnP K "_law_law_loss_drawn" s_Llaw_loss_drawn (He.ga K "_law_law_loss_drawn") fd
  g__law_law_loss_drawn : mg "_law_law_loss_drawn" = some (.ref (He.ga K "_law_law_loss_drawn"))
  d_Ldue : ∃ fd, FnP K "_law_due" s_Ldue (He.ga K "_law_due") fd
  g__law_due : mg "_law_due" = some (.ref (He.ga K "_law_due"))
  d_Lis_raised : ∃ fd, FnP K "_law_is_raised" s_Lis_raised (He.ga K "_law_is_raised") fd
  g__law_is_raised : mg "_law_is_raised" = some (.ref (He.ga K "_law_is_raised"))
  d_Lloss : ∃ fd, FnP K "_law_loss" s_Lloss (He.ga K "_law_loss") fd
  g__law_loss : mg "_law_loss" = some (.ref (He.ga K "_law_loss"))
  d_Lright : ∃ fd, FnP K "_law_right" s_Lright (He.ga K "_law_right") fd
  g__law_right : mg "_law_right" = some (.ref (He.ga K "_law_right"))
  d_law : ∃ fd, FnP K "law" s_law (He.ga K "law") fd
  g_law : mg "law" = some (.ref (He.ga K "law"))
  c_FATES : ∃ t, mg "FATES" = some (.str "nfs" t)
  c_MOST_FATES : ∃ t, mg "MOST_FATES" = some (.int 200 t)
  u_Lright : ∀ r ∈ tabs K tf, r.1 = (He.cT K ("_law_right", none)).2 → r.2 = (("_law_right" : Str) ++ ".<locals>.") ++ "<lambda>"
  d_init : ∃ fd, FunD K "__init__" "PlayError.__init__" (defArgs s_init) (defBody s_init) (defScope s_init) [] [] (He.ma K (He.ga K "PlayError") "__init__") fd
  g_BadLoss : mg "BadLoss" = some (.ref (He.ga K "BadLoss"))
  g_BadNumber : mg "BadNumber" = some (.ref (He.ga K "BadNumber"))
  g_BadWord : mg "BadWord" = some (.ref (He.ga K "BadWord"))
  g_PlayError : mg "PlayError" = some (.ref (He.ga K "PlayError"))
  g_TooLong : mg "TooLong" = some (.ref (He.ga K "TooLong"))
  e_BadLoss : ECls K (He.ga K "BadLoss") (He.ma K (He.ga K "PlayError") "__init__")
  x_BadLoss : PySem.W.exmOne K (.ref (He.ga K "BadLoss")) (.ref (He.ga K "PlayError")) = some true
  e_BadNumber : ECls K (He.ga K "BadNumber") (He.ma K (He.ga K "PlayError") "__init__")
  x_BadNumber : PySem.W.exmOne K (.ref (He.ga K "BadNumber")) (.ref (He.ga K "PlayError")) = some true
  e_BadWord : ECls K (He.ga K "BadWord") (He.ma K (He.ga K "PlayError") "__init__")
  x_BadWord : PySem.W.exmOne K (.ref (He.ga K "BadWord")) (.ref (He.ga K "PlayError")) = some true
  e_TooLong : ECls K (He.ga K "TooLong") (He.ma K (He.ga K "PlayError") "__init__")
  x_TooLong : PySem.W.exmOne K (.ref (He.ga K "TooLong")) (.ref (He.ga K "PlayError")) = some true
  n_BadLoss : PySem.W.kitOne K (.type "NoneType") (.ref (He.ga K "BadLoss")) = some false
  k_BadLoss_BadLoss : PySem.W.kitOne K (.ref (He.ga K "BadLoss")) (.ref (He.ga K "BadLoss")) = some true
  k_BadNumber_BadLoss : PySem.W.kitOne K (.ref (He.ga K "BadNumber")) (.ref (He.ga K "BadLoss")) = some false
  k_BadWord_BadLoss : PySem.W.kitOne K (.ref (He.ga K "BadWord")) (.ref (He.ga K "BadLoss")) = some false
  k_TooLong_BadLoss : PySem.W.kitOne K (.ref (He.ga K "TooLong")) (.ref (He.ga K "BadLoss")) = some false
  n_BadNumber : PySem.W.kitOne K (.type "NoneType") (.ref (He.ga K "BadNumber")) = some false
  k_BadLoss_BadNumber : PySem.W.kitOne K (.ref (He.ga K "BadLoss")) (.ref (He.ga K "BadNumber")) = some false
  k_BadNumber_BadNumber : PySem.W.kitOne K (.ref (He.ga K "BadNumber")) (.ref (He.ga K "BadNumber")) = some true
  k_BadWord_BadNumber : PySem.W.kitOne K (.ref (He.ga K "BadWord")) (.ref (He.ga K "BadNumber")) = some false
  k_TooLong_BadNumber : PySem.W.kitOne K (.ref (He.ga K "TooLong")) (.ref (He.ga K "BadNumber")) = some false
  n_BadWord : PySem.W.kitOne K (.type "NoneType") (.ref (He.ga K "BadWord")) = some false
  k_BadLoss_BadWord : PySem.W.kitOne K (.ref (He.ga K "BadLoss")) (.ref (He.ga K "BadWord")) = some false
  k_BadNumber_BadWord : PySem.W.kitOne K (.ref (He.ga K "BadNumber")) (.ref (He.ga K "BadWord")) = some false
  k_BadWord_BadWord : PySem.W.kitOne K (.ref (He.ga K "BadWord")) (.ref (He.ga K "BadWord")) = some true
  k_TooLong_BadWord : PySem.W.kitOne K (.ref (He.ga K "TooLong")) (.ref (He.ga K "BadWord")) = some false
  n_TooLong : PySem.W.kitOne K (.type "NoneType") (.ref (He.ga K "TooLong")) = some false
  k_BadLoss_TooLong : PySem.W.kitOne K (.ref (He.ga K "BadLoss")) (.ref (He.ga K "TooLong")) = some false
  k_BadNumber_TooLong : PySem.W.kitOne K (.ref (He.ga K "BadNumber")) (.ref (He.ga K "TooLong")) = some false
  k_BadWord_TooLong : PySem.W.kitOne K (.ref (He.ga K "BadWord")) (.ref (He.ga K "TooLong")) = some false
  k_TooLong_TooLong : PySem.W.kitOne K (.ref (He.ga K "TooLong")) (.ref (He.ga K "TooLong")) = some true
  z_abs : mg "abs" = none
  z_all : mg "all" = none
  z_bool : mg "bool" = none
  z_int : mg "int" = none
  z_isinstance : mg "isinstance" = none
  z_len : mg "len" = none
  z_list : mg "list" = none
  z_range : mg "range" = none
  z_repr : mg "repr" = none
  z_str : mg "str" = none
  z_sum : mg "sum" = none
  z_tuple : mg "tuple" = none
  z_type : mg "type" = none
section
variable {P : Program} {w : World} {K : PySem.W.Frag} {mg : Str → Option Value} {base : Heap}
def kg_are_alike_0_other_one {α : Type} (us ws : List α) : List α := (((ws.drop 1).take 1) ++ ((ws.drop 0).take 1))
theorem kb_are_alike_0_other_one {f : Addr} {fd : FuncData} (D : FnP K "are_alike" s_are_alike f fd) : KBn K fd ["one", "other"] 0 ["other", "one"] (fun us ws => kg_are_alike_0_other_one us ws) (fun vs zs => kg_are_alike_0_other_one vs zs) :=
  kbN D 0 ["other", "one"] (fun us ws => kg_are_alike_0_other_one us ws) (fun {vs zs us ws} r1 r2 => (Vals.append ((r2.drop 1).take 1) ((r2.drop 0).take 1)))
    (fun _ _ _ _ _ _ us ws h1 h2 => match us, ws, h1, h2 with | [], [_, _], _, _ => rfl)
def kg_shifted_0_word_loss {α : Type} (us ws : List α) : List α := (((ws.drop 1).take 1) ++ ((ws.drop 0).take 1))
theorem kb_shifted_0_word_loss {f : Addr} {fd : FuncData} (D : FnP K "shifted" s_shifted f fd) : KBn K fd ["loss", "word"] 0 ["word", "loss"] (fun us ws => kg_shifted_0_word_loss us ws) (fun vs zs => kg_shifted_0_word_loss vs zs) :=
  kbN D 0 ["word", "loss"] (fun us ws => kg_shifted_0_word_loss us ws) (fun {vs zs us ws} r1 r2 => (Vals.append ((r2.drop 1).take 1) ((r2.drop 0).take 1)))
    (fun _ _ _ _ _ _ us ws h1 h2 => match us, ws, h1, h2 with | [], [_, _], _, _ => rfl)
def kg_tail_0_loss {α : Type} (us ws : List α) : List α := ((ws.drop 0).take 1)
theorem kb_tail_0_loss {f : Addr} {fd : FuncData} (D : FnP K "tail" s_tail f fd) : KBn K fd ["loss"] 0 ["loss"] (fun us ws => kg_tail_0_loss us ws) (fun vs zs => kg_tail_0_loss vs zs) :=
  kbN D 0 ["loss"] (fun us ws => kg_tail_0_loss us ws) (fun {vs zs us ws} r1 r2 => ((r2.drop 0).take 1))
    (fun _ _ _ _ _ _ us ws h1 h2 => match us, ws, h1, h2 with | [], [_], _, _ => rfl)
theorem ok_errI (T : Txt K mg) : ErrI P w K mg base (He.ma K (He.ga K "PlayError") "__init__") := by
  obtain ⟨fd, D⟩ := T.d_init
  refine ⟨fd, D.ok sc_init (fun vs H Q E h => ?_) (fun cdv A outer s H vs Q E hr h => ?_), D.bindsN (fun _ _ _ _ _ _ us hl => match us, hl with | [_, _], _ => rfl)⟩
  · obtain ⟨a, C, v, rfl, h1, h2, h3, q⟩ := h
    rfl
  · obtain ⟨a, C, v, rfl, h1, h2, h3, q⟩ := h
    exact ⟨_, PSs.nox (pss_one (ps_ost (pv 0) (pv 1))), v, rfl, .ref a, rfl, a, C, rfl, h2, h3, .inl ⟨h1, q⟩⟩
def sp_Lpot (K : PySem.W.Frag) : Sp := fun vs H Q _ => ∃ (a : Addr) (ns : List Int) (i : Nat), vs = [.ref a, .int i] ∧ SqL K H a (ns.map V.int) ∧ i ≤ 10 ∧ ∀ H' p, Same H H' → H p = none → PotAt H' p 0 → Q (.ref p) H'
theorem ok_Lpot (T : Txt K mg) : Ok P w K mg base CX0 (1) "_law_pot" s_Lpot ["script", "at"] (sp_Lpot K) := by
  obtain ⟨fd, D⟩ := T.d_Lpot
  refine ⟨⟨_, fd, T.g__law_pot, D, D.bindsN (fun _ _ _ _ _ _ us hl => match us, hl with | [_, _], _ => rfl), ?_⟩⟩
  refine D.ok sc_Lpot (fun vs H Q E h => ?_) (fun cdv A outer s H vs Q E hr h => ?_)
  · obtain ⟨a, ns, i, rfl, hS, hi, q⟩ := h
    rfl
  · obtain ⟨a, ns, i, rfl, hS, hi, q⟩ := h
    refine ⟨_, PSs.nox (pss_cons (ps_set (i := 2) sc_Lpot.nd rfl (by first | exact Or.inl rfl | exact Or.inr rfl) (pe_ifExp (pt_cmpR op_lt (pv 1) (pe_callB k_lnQ (by rfl) T.z_len (by decide +kernel) (pa_cons (pv 0) pa_nil)) (nomark _)) (pe_ix ix_list (pv 0) (pv 1) (fun _ _ => rfl)) (pe_op op_add (pe_op op_add (pe_op op_mod (pe_callB (cr_sum rfl) (by rfl) T.z_sum (by decide +kernel) (pa_cons (pe_slice sl_list (pv 0) po_none (po_some pe_int)) pa_nil)) pe_int) (pe_op op_mulW pe_int (pv 1))) pe_int)))
      (pss_cons (ps_set (i := 3) sc_Lpot.nd rfl (by first | exact Or.inl rfl | exact Or.inr rfl) (pe_op op_mulW (pe_op op_mod (pe_callTy k_int (by rfl) T.z_int (by decide +kernel) (pa_cons (pe_callB k_abs (by rfl) T.z_abs (by decide +kernel) (pa_cons (pv 2) pa_nil)) pa_nil)) (pe_op op_powW (pe_op op_powW pe_int pe_int) pe_int)) (pe_callTy k_int (by rfl) T.z_int (by decide +kernel) (pa_cons (pe_cmpR op_ge (pe_callB k_abs (by rfl) T.z_abs (by decide +kernel) (pa_cons (pv 2) pa_nil)) (pe_op op_powW pe_int pe_int) (nomark _)) pa_nil))))
      (pss_cons (ps_set (i := 4) sc_Lpot.nd rfl (by first | exact Or.inl rfl | exact Or.inr rfl) (pe_op op_mod (pe_callTy k_int (by rfl) T.z_int (by decide +kernel) (pa_cons (pv 2) pa_nil)) pe_int))
      (pss_one (ps_ret (pe_lst (pa_cons (pv 3) (pa_cons (pe_op op_mod (pe_callTy k_int (by rfl) T.z_int (by decide +kernel) (pa_cons (pe_op op_add (pe_op op_add (pe_op op_mulW (pv 4) pe_int) (pe_op op_mulW (pe_op op_mulW pe_int (pv 1)) (pv 1))) pe_int) pa_nil)) pe_int) (pa_cons pe_int pa_nil))))))))), ?_⟩
    refine r_seq (r_asg (r_cut (fun x H1 => ∃ z : Int, x = .int z ∧ Same H H1) ?_ fun R fin => ?_))
    · rintro x H1 ⟨z, rfl, e⟩
      walk_at "r"
      refine r_I (cpw (by decide) (by decide) (by decide) (by decide)) ?_
      walk_at "r"
      refine r_I ⟨by decide, by decide +kernel⟩ ?_
      walk_at "r"
      refine r_I (by show (0 : Int) < _; decide +kernel) ?_
      walk_at "r"
      refine r_I (cpw (by decide) (by decide) (by decide) (by decide)) ?_
      walk_at "r"
      have hM : (0 : Int) < (10 ^ (60 : Int).toNat) ^ (5 : Int).toNat := by decide +kernel
      have hM2 : ((10 : Int) ^ (60 : Int).toNat) ^ (5 : Int).toNat < 2 ^ 1000 := by decide +kernel
      have h1 := Int.emod_nonneg (if z < 0 then -z else z) (Int.ne_of_gt hM)
      have h2 := Int.emod_lt_of_pos (if z < 0 then -z else z) hM
      generalize (if z < 0 then -z else z) % ((10 : Int) ^ (60 : Int).toNat) ^ (5 : Int).toNat = own at h1 h2 ⊢
      have h3 : own < 2 ^ 1000 := Int.lt_trans h2 hM2
      generalize hb : (decide ((10 : Int) ^ (18 : Int).toNat ≤ if z < 0 then -z else z)) = b
      have ho : ∃ o : Int, own * (if b then 1 else 0) = o ∧ 0 ≤ o ∧ o.natAbs < 2 ^ 1000 ∧ CMulW own (if b then 1 else 0) := by
        have e2 : (2 : Int) ^ 1000 ≤ 2 ^ 1100 := by decide +kernel
        have e3 : (1 : Int) < 2 ^ 1000 := by decide +kernel
        cases b
        · exact ⟨0, by simp, by decide, by decide +kernel, cmw (by omega) (by omega) (by simp) (by simp)⟩
        · exact ⟨own, by simp, h1, by omega, cmw (by omega) (by omega) (by simp) (by simp)⟩
      obtain ⟨o, ho1, ho2, ho3, ho4⟩ := ho
      refine r_I ho4 ?_
      rw [ho1]
      walk_at "r"
      refine r_I (by show (0 : Int) < _; decide) ?_
      walk_at "r"
      have s1 := Int.emod_nonneg z (show (2305843009213693951 : Int) ≠ 0 by decide)
      have s2 := Int.emod_lt_of_pos z (show (0 : Int) < 2305843009213693951 by decide)
      generalize z % 2305843009213693951 = sm at s1 s2 ⊢
      refine r_I (cms (by omega) (by omega) (by omega) (by omega)) ?_
      walk_at "r"
      refine r_I (cms (by omega) (by omega) (by omega) (by omega)) ?_
      walk_at "r"
      refine r_I (cms (by omega) (by omega) (by omega) (by omega)) ?_
      walk_at "r"
      refine r_I (by show (0 : Int) < _; decide) ?_
      walk_at "r"
      refine ⟨by show 3 ≤ sizeLine; decide, fun p hp => ?_⟩
      refine q _ p (e.trans (same_new hp)) (e.free hp) ⟨o, _, 0, upd_same, ho2, ho3, Int.emod_nonneg _ (by decide), Int.lt_trans (Int.emod_lt_of_pos _ (by decide)) (by decide), by decide, by decide⟩
    · walk_at "r"
      refine r_lnL hS ?_
      walk_at "r"
      refine r_dec (fun h => ?_) (fun h => ?_)
      · walk_at "r"
        have hi' : i < ns.length := by rw [List.length_map] at h; omega
        refine r_ixL hS (v := .int ns[i]) (atI_nat (by rw [List.getElem?_map, List.getElem?_eq_getElem hi']; rfl)) ?_
        exact fin _ _ ⟨_, rfl, Same.refl _⟩
      · walk_at "r"
        refine r_slL hS fun p hp => ?_
        walk_at "r"
        obtain ⟨ms, hms⟩ : ∃ ms : List Int, cutV (ns.map V.int) none (some 1) = ms.map V.int := by
          refine ⟨(ns.drop (HT.sIx (ns.map V.int).length 0 none)).take (HT.sIx (ns.map V.int).length (ns.map V.int).length (some 1) - HT.sIx (ns.map V.int).length 0 none), ?_⟩
          unfold cutV
          rw [List.map_take, List.map_drop]
        rw [hms]
        refine r_sum (SqL.of upd_same) ?_
        walk_at "r"
        refine r_I (by show (0 : Int) < _; decide) ?_
        walk_at "r"
        refine r_I (cms (by omega) (by omega) (by omega) (by omega)) ?_
        walk_at "r"
        exact fin _ _ ⟨_, rfl, same_new hp⟩
def sp_Ltake (K : PySem.W.Frag) : Sp := fun vs H Q _ => ∃ (a : Addr) (u c : Int), vs = [.ref a, .int u] ∧ PotAt H a c ∧ c ≤ 1000000 ∧ 0 < u ∧ u < 1073741824 ∧ ∀ H' d, But a H H' → PotAt H' a (c + 1) → 0 ≤ d → d < u → Q (.int d) H'
theorem ok_Ltake (T : Txt K mg) : Ok P w K mg base CX0 (1) "_law_take" s_Ltake ["pot", "upto"] (sp_Ltake K) := by
  obtain ⟨fd, D⟩ := T.d_Ltake
  refine ⟨⟨_, fd, T.g__law_take, D, D.bindsN (fun _ _ _ _ _ _ us hl => match us, hl with | [_, _], _ => rfl), ?_⟩⟩
  refine D.ok sc_Ltake (fun vs H Q E h => ?_) (fun cdv A outer s H vs Q E hr h => ?_)
  · obtain ⟨a, u, c, rfl, hP, hc, hu, hu2, q⟩ := h
    rfl
  · obtain ⟨a, u, c, rfl, hP, hc, hu, hu2, q⟩ := h
    refine ⟨_, PSs.nox (pss_cons (ps_if (pt_cmpR op_gt (pe_ix ix_list (pv 0) pe_int (fun _ _ => rfl)) pe_int (nomark _))
        (pss_cons (ps_set (i := 4) sc_Ltake.nd rfl (by first | exact Or.inl rfl | exact Or.inr rfl) (pe_op op_mod (pe_callTy k_int (by rfl) T.z_int (by decide +kernel) (pa_cons (pe_ix ix_list (pv 0) pe_int (fun _ _ => rfl)) pa_nil)) (pv 1)))
      (pss_cons (ps_asg (pe_op op_fdivW (pe_ix ix_list (pv 0) pe_int (fun _ _ => rfl)) (pv 1)) (pg_sub (pv 0) pe_int set_list))
      (pss_one (ps_ret (pv 4)))))
        pss_nil)
      (pss_cons (ps_asg (pe_op op_add (pe_ix ix_list (pv 0) pe_int (fun _ _ => rfl)) pe_int) (pg_sub (pv 0) pe_int set_list))
      (pss_cons (ps_set (i := 2) sc_Ltake.nd rfl (by first | exact Or.inl rfl | exact Or.inr rfl) (pe_ix ix_list (pe_lst (pa_cons pe_int (pa_cons pe_int (pa_cons pe_int (pa_cons pe_int (pa_cons pe_int pa_nil)))))) (pe_op op_mod (pe_callTy k_int (by rfl) T.z_int (by decide +kernel) (pa_cons (pe_ix ix_list (pv 0) pe_int (fun _ _ => rfl)) pa_nil)) pe_int) (fun _ _ => rfl)))
      (pss_cons (ps_set (i := 3) sc_Ltake.nd rfl (by first | exact Or.inl rfl | exact Or.inr rfl) (pe_op op_mod (pe_callTy k_int (by rfl) T.z_int (by decide +kernel) (pa_cons (pe_op op_powW (pe_callTy k_int (by rfl) T.z_int (by decide +kernel) (pa_cons (pe_op op_add (pe_op op_add (pe_ix ix_list (pv 0) pe_int (fun _ _ => rfl)) (pe_op op_mulW (pe_op op_mulW pe_int (pe_ix ix_list (pv 0) pe_int (fun _ _ => rfl))) (pe_ix ix_list (pv 0) pe_int (fun _ _ => rfl)))) pe_int) pa_nil)) pe_int) pa_nil)) (pv 2)))
      (pss_cons (ps_set (i := 3) sc_Ltake.nd rfl (by first | exact Or.inl rfl | exact Or.inr rfl) (pe_op op_mod (pe_callTy k_int (by rfl) T.z_int (by decide +kernel) (pa_cons (pe_op op_mulW (pv 3) (pe_op op_add (pe_op op_mod (pe_callTy k_int (by rfl) T.z_int (by decide +kernel) (pa_cons (pv 3) pa_nil)) pe_int) (pe_op op_mulW pe_int (pe_ix ix_list (pv 0) pe_int (fun _ _ => rfl))))) pa_nil)) pe_int))
      (pss_one (ps_ret (pe_op op_mod (pe_callTy k_int (by rfl) T.z_int (by decide +kernel) (pa_cons (pe_op op_fdivW (pv 3) pe_int) pa_nil)) (pv 1))))))))), ?_⟩
    obtain ⟨own, sd, n, hA, o1, o2, s1, s2, n1, n2⟩ := hP
    refine r_seq (s_cut (fun σ' H' => σ' = [some (.ref a), some (.int u), none, none, none] ∧ H' = H) ?_ fun R fin => ?_)
    · rintro σ' G ⟨rfl, rfl⟩
      walk_at "r"
      refine r_ixL (SqL.of hA) rfl ?_
      walk_at "r"
      refine r_setL (j := 2) hA rfl ?_
      walk_at "r"
      have hA2 : (upd G a (.lst ([V.int own, V.int sd, V.int n].set 2 (V.int (n + 1))))) a = some (.lst [.int own, .int sd, .int (n + 1)]) := upd_same
      have b2 : But a G (upd G a (.lst ([V.int own, V.int sd, V.int n].set 2 (V.int (n + 1))))) := But.put But.refl
      generalize upd G a (.lst ([V.int own, V.int sd, V.int n].set 2 (V.int (n + 1)))) = H2 at hA2 b2 ⊢
      refine ⟨by show 5 ≤ sizeLine; decide, fun p hp => ?_⟩
      have hA3 : (upd H2 p (.lst [.int 2147483647, .int 2147483629, .int 2147483587, .int 2147483579, .int 2147483563])) a = some (.lst [.int own, .int sd, .int (n + 1)]) := same_new hp _ _ hA2
      walk_at "r"
      refine r_ixL (SqL.of hA3) rfl ?_
      walk_at "r"
      refine r_I (by show (0 : Int) < _; decide) ?_
      obtain ⟨v, hv, hm⟩ := at_mem (xs := [.int 2147483647, .int 2147483629, .int 2147483587, .int 2147483579, .int 2147483563]) (i := (n + 1) % 5) (by omega) (by simp; omega)
      refine r_ixL (SqL.of upd_same) hv ?_
      obtain ⟨m, rfl, m1, m2⟩ : ∃ m : Int, v = .int m ∧ 0 < m ∧ m ≤ 2147483647 := by
        simp only [List.mem_cons, List.not_mem_nil, or_false] at hm
        rcases hm with rfl | rfl | rfl | rfl | rfl <;> exact ⟨_, rfl, by decide, by decide⟩
      have b3 := b2.trans (But.of (same_new hp (o := .lst [.int 2147483647, .int 2147483629, .int 2147483587, .int 2147483579, .int 2147483563])))
      generalize upd H2 p (.lst [.int 2147483647, .int 2147483629, .int 2147483587, .int 2147483579, .int 2147483563]) = H3 at hA3 b3 ⊢
      walk_at "r"
      refine r_ixL (SqL.of hA3) rfl ?_
      walk_at "r"
      refine r_ixL (SqL.of hA3) rfl ?_
      refine r_I (cms (by omega) (by omega) (by omega) (by omega)) ?_
      generalize hx : (_ : Int) * (n + 1) = x1
      have hx1 : 0 ≤ x1 := by omega
      have hx2 : x1 ≤ 1000000000000 := by omega
      have hx3 := mulB hx1 hx2 (show 0 ≤ n + 1 by omega) (show n + 1 ≤ 2000000 by omega) (show (1000000000000 : Int) * 2000000 ≤ 2000000000000000000 by decide)
      walk_at "r"
      refine r_ixL (SqL.of hA3) rfl ?_
      refine r_I (cms (by omega) (by omega) (by omega) (by omega)) ?_
      generalize x1 * (n + 1) = x2 at hx3 ⊢
      walk_at "r"
      refine r_I (cpw (by omega) (by omega) (by decide) (by decide)) ?_
      walk_at "r"
      refine r_I m1 ?_
      walk_at "r"
      generalize hb : (sd + x2 + _) ^ (3 : Int).toNat = cub
      have t1 := Int.emod_nonneg cub (Int.ne_of_gt m1)
      have t2 := Int.emod_lt_of_pos cub m1
      generalize cub % m = bl at t1 t2 ⊢
      refine r_I (by show (0 : Int) < _; decide) ?_
      walk_at "r"
      refine r_ixL (SqL.of hA3) rfl ?_
      refine r_I (cms (by omega) (by omega) (by omega) (by omega)) ?_
      walk_at "r"
      refine r_I (cms (by omega) (by omega) (by omega) (by omega)) ?_
      walk_at "r"
      refine r_I (by show (0 : Int) < _; decide) ?_
      walk_at "r"
      refine r_I (cdw (by decide) (by decide)) ?_
      walk_at "r"
      refine r_I hu ?_
      exact q _ _ b3 ⟨own, sd, n + 1, hA3, o1, o2, s1, s2, by omega, by omega⟩ (Int.emod_nonneg _ (by omega)) (Int.emod_lt_of_pos _ hu)
    · walk_at "r"
      refine r_ixL (SqL.of hA) rfl ?_
      walk_at "r"
      refine r_dec (fun h => ?_) (fun h => ?_)
      · walk_at "r"
        refine r_ixL (SqL.of hA) rfl ?_
        walk_at "r"
        refine r_I hu ?_
        walk_at "r"
        refine r_ixL (SqL.of hA) rfl ?_
        walk_at "r"
        refine r_I (cdw hu (by omega)) ?_
        walk_at "r"
        refine r_setL (j := 0) hA rfl ?_
        walk_at "r"
        obtain ⟨d1, d2⟩ := div_sz o1 o2 hu
        exact q _ _ (But.put But.refl) ⟨own / u, sd, n, upd_same, d1, d2, s1, s2, n1, by omega⟩ (Int.emod_nonneg _ (by omega)) (Int.emod_lt_of_pos _ hu)
      · walk_at "r"
        exact fin _ _ ⟨rfl, rfl⟩
def sp_Lof (K : PySem.W.Frag) : Sp := fun vs H Q _ => ∃ (a l : Addr) (xs : List V) (c : Int), vs = [.ref a, .ref l] ∧ PotAt H a c ∧ c ≤ 1000000 ∧ SqL K H l xs ∧ l ≠ a ∧ 0 < xs.length ∧ xs.length ≤ 1000000 ∧ ∀ H' x, But a H H' → PotAt H' a (c + 1) → x ∈ xs → Q x H'
theorem ok_Lof (T : Txt K mg) : Ok P w K mg base CX0 (2) "_law_of" s_Lof ["pot", "some"] (sp_Lof K) := by
  obtain ⟨fd, D⟩ := T.d_Lof
  refine ⟨⟨_, fd, T.g__law_of, D, D.bindsN (fun _ _ _ _ _ _ us hl => match us, hl with | [_, _], _ => rfl), ?_⟩⟩
  refine D.ok sc_Lof (fun vs H Q E h => ?_) (fun cdv A outer s H vs Q E hr h => ?_)
  · obtain ⟨a, l, xs, c, rfl, hP, hc, hl, hla, h0, hz, q⟩ := h
    rfl
  · obtain ⟨a, l, xs, c, rfl, hP, hc, hl, hla, h0, hz, q⟩ := h
    have F_Ltake := ok_Ltake (P := P) (w := w) (K := K) (mg := mg) (base := base) T
    refine ⟨_, PSs.nox (pss_one (ps_ret (pe_ix ix_list (pv 1) (pe_cl F_Ltake hr (by rfl) pass0 (pa_cons (pv 0) (pa_cons (pe_callB k_lnQ (by rfl) T.z_len (by decide +kernel) (pa_cons (pv 1) pa_nil)) pa_nil))) (fun _ _ => rfl)))), ?_⟩
    walk_at "r"
    refine r_lnL hl ?_
    walk_at "r"
    refine ⟨a, xs.length, c, rfl, hP, hc, by omega, by omega, fun H' d b p d0 d1 => ?_⟩
    obtain ⟨v, hv, hm⟩ := at_mem (xs := xs) d0 d1
    exact r_ixL (b.sql hla hl) hv (q _ _ b p hm)

def sp_Lodd (K : PySem.W.Frag) : Sp := fun vs H Q _ => ∃ (a : Addr) (c : Int), vs = [.ref a] ∧ PotAt H a c ∧ c ≤ 900000 ∧ ∀ H' x d, But a H H' → PotAt H' a (c + 1) → Sml K a H' 2 10000 d x → Q x H'
theorem ok_Lodd (T : Txt K mg) : Ok P w K mg base CX0 (3) "_law_odd" s_Lodd ["pot"] (sp_Lodd K) := by
  obtain ⟨fd, D⟩ := T.d_Lodd
  refine ⟨⟨_, fd, T.g__law_odd, D, D.bindsN (fun _ _ _ _ _ _ us hl => match us, hl with | [_], _ => rfl), ?_⟩⟩
  refine D.ok sc_Lodd (fun vs H Q E h => ?_) (fun cdv A outer s H vs Q E hr h => ?_)
  · obtain ⟨a, c, rfl, hP, hc, q⟩ := h
    rfl
  · obtain ⟨a, c, rfl, hP, hc, q⟩ := h
    have F_Lof := ok_Lof (P := P) (w := w) (K := K) (mg := mg) (base := base) T
    refine ⟨_, PSs.nox (pss_cons (ps_set (i := 1) sc_Lodd.nd rfl (by first | exact Or.inl rfl | exact Or.inr rfl) (pe_lst (pa_cons pe_non (pa_cons pe_bl (pa_cons pe_bl (pa_cons pe_int (pa_cons pe_int (pa_cons (pe_un un_neg pe_int) (pa_cons pe_int (pa_cons (pe_op op_powW pe_int pe_int) (pa_cons (pe_strS [] (by rfl)) (pa_cons (pe_strS [97] (by rfl)) (pa_cons (pe_strS [110] (by rfl)) (pa_cons (pe_strS [110, 102, 115] (by rfl)) (pa_cons (pe_strS [108, 97, 119] (by rfl)) (pa_cons (pe_strS [110, 102, 120] (by rfl)) (pa_cons (pe_tup pa_nil) (pa_cons (pe_lst pa_nil) (pa_cons pe_dnewK (pa_cons (pe_tup (pa_cons pe_int pa_nil)) pa_nil))))))))))))))))))))
      (pss_cons (ps_set (i := 1) sc_Lodd.nd rfl (by first | exact Or.inl rfl | exact Or.inr rfl) (pe_op op_cat (pv 1) (pe_lst (pa_cons (pe_tup (pa_cons (pe_strS [] (by rfl)) (pa_cons (pe_strS [110] (by rfl)) pa_nil))) (pa_cons (pe_tup (pa_cons (pe_strS [110] (by rfl)) (pa_cons (pe_strS [] (by rfl)) pa_nil))) (pa_cons (pe_tup (pa_cons (pe_strS [110, 102] (by rfl)) (pa_cons (pe_strS [115] (by rfl)) pa_nil))) (pa_cons (pe_lst (pa_cons (pe_strS [] (by rfl)) (pa_cons (pe_strS [110] (by rfl)) pa_nil))) (pa_cons (pe_tup (pa_cons (pe_strS [] (by rfl)) (pa_cons (pe_strS [110] (by rfl)) (pa_cons (pe_strS [102] (by rfl)) pa_nil)))) (pa_cons (pe_tup (pa_cons pe_non pa_nil)) (pa_cons (pe_disp (pps_cons (pe_strS [97] (by rfl)) pe_int pps_nil) (by rfl) (by rfl) (fun z => by cases z) (by decide)) (pa_cons (pe_tup (pa_cons pe_bl pa_nil)) (pa_cons (pe_tup (pa_cons pe_int (pa_cons pe_int pa_nil))) pa_nil))))))))))))
      (pss_cons (ps_expr (pe_bm PySem.F.plainAttrs_list PySem.F.slot_list_extend PySem.F.type_list_extend mt_extend (pv 1) (pa_cons (pe_lst (pa_cons (pe_tup (pa_cons (pe_tup (pa_cons (pe_strS [] (by rfl)) (pa_cons (pe_strS [110] (by rfl)) pa_nil))) pa_nil)) (pa_cons (pe_tup (pa_cons (pe_strS [121, 101, 115] (by rfl)) (pa_cons (pe_tup (pa_cons (pe_strS [] (by rfl)) (pa_cons (pe_strS [110] (by rfl)) pa_nil))) pa_nil))) (pa_cons (pe_tup (pa_cons (pe_strS [110, 111] (by rfl)) (pa_cons (pe_tup pa_nil) pa_nil))) (pa_cons (pe_tup (pa_cons pe_int (pa_cons pe_int pa_nil))) (pa_cons (pe_tup (pa_cons (pe_strS [78] (by rfl)) (pa_cons (pe_strS [110] (by rfl)) pa_nil))) (pa_cons (pe_tup (pa_cons pe_int (pa_cons pe_int pa_nil))) (pa_cons (pe_tup (pa_cons (pe_strS [102, 105, 114, 115, 116] (by rfl)) pa_nil)) (pa_cons (pe_strS [70] (by rfl)) pa_nil))))))))) pa_nil)))
      (pss_one (ps_ret (pe_cl F_Lof hr (by rfl) pass0 (pa_cons (pv 0) (pa_cons (pv 1) pa_nil)))))))), ?_⟩
    have hb : But a H H := But.refl
    walk_at "r"
    refine r_I (cpw (by decide) (by decide) (by decide) (by decide)) ?_
    rw [show ((10 : Int) ^ (8 : Int).toNat) = 100000000 from by decide]
    walk_at "r"
    refine ⟨by show 0 ≤ sizeLine; decide, fun p1 hp1 => ?_⟩
    have fp1 : (upd H p1 (.tup [])) p1 = some (.tup []) := upd_same
    have sp1 := same_new hp1 (o := .tup [])
    have np1 : p1 ≠ a := hP.fresh hp1
    replace hP := hP.same sp1
    replace hb := hb.trans (But.of sp1)
    clear sp1
    generalize upd H p1 (.tup []) = G1 at *
    walk_at "r"
    refine ⟨by show 0 ≤ sizeLine; decide, fun p2 hp2 => ?_⟩
    have fp2 : (upd G1 p2 (.lst [])) p2 = some (.lst []) := upd_same
    have sp2 := same_new hp2 (o := .lst [])
    have np2 : p2 ≠ a := hP.fresh hp2
    replace fp1 := sp2 _ _ fp1
    replace hP := hP.same sp2
    replace hb := hb.trans (But.of sp2)
    clear sp2
    generalize upd G1 p2 (.lst []) = G2 at *
    walk_at "r"
    refine fun p3 hp3 => ?_
    have fp3 : (upd G2 p3 (.dK [])) p3 = some (.dK []) := upd_same
    have sp3 := same_new hp3 (o := .dK [])
    have np3 : p3 ≠ a := hP.fresh hp3
    replace fp1 := sp3 _ _ fp1
    replace fp2 := sp3 _ _ fp2
    replace hP := hP.same sp3
    replace hb := hb.trans (But.of sp3)
    clear sp3
    generalize upd G2 p3 (.dK []) = G3 at *
    walk_at "r"
    refine ⟨by show 1 ≤ sizeLine; decide, fun p4 hp4 => ?_⟩
    have fp4 : (upd G3 p4 (.tup [.int 0])) p4 = some (.tup [.int 0]) := upd_same
    have sp4 := same_new hp4 (o := .tup [.int 0])
    have np4 : p4 ≠ a := hP.fresh hp4
    replace fp1 := sp4 _ _ fp1
    replace fp2 := sp4 _ _ fp2
    replace fp3 := sp4 _ _ fp3
    replace hP := hP.same sp4
    replace hb := hb.trans (But.of sp4)
    clear sp4
    generalize upd G3 p4 (.tup [.int 0]) = G4 at *
    walk_at "r"
    refine ⟨by show 18 ≤ sizeLine; decide, fun p5 hp5 => ?_⟩
    have fp5 : (upd G4 p5 (.lst [.non, .bl true, .bl false, .int 0, .int 1, .int (-1), .int 7, .int 100000000, .str (S []), .str (S [97]), .str (S [110]), .str (S [110, 102, 115]), .str (S [108, 97, 119]), .str (S [110, 102, 120]), .ref p1, .ref p2, .ref p3, .ref p4])) p5 = some (.lst [.non, .bl true, .bl false, .int 0, .int 1, .int (-1), .int 7, .int 100000000, .str (S []), .str (S [97]), .str (S [110]), .str (S [110, 102, 115]), .str (S [108, 97, 119]), .str (S [110, 102, 120]), .ref p1, .ref p2, .ref p3, .ref p4]) := upd_same
    have sp5 := same_new hp5 (o := .lst [.non, .bl true, .bl false, .int 0, .int 1, .int (-1), .int 7, .int 100000000, .str (S []), .str (S [97]), .str (S [110]), .str (S [110, 102, 115]), .str (S [108, 97, 119]), .str (S [110, 102, 120]), .ref p1, .ref p2, .ref p3, .ref p4])
    have np5 : p5 ≠ a := hP.fresh hp5
    replace fp1 := sp5 _ _ fp1
    replace fp2 := sp5 _ _ fp2
    replace fp3 := sp5 _ _ fp3
    replace fp4 := sp5 _ _ fp4
    replace hP := hP.same sp5
    replace hb := hb.trans (But.of sp5)
    clear sp5
    generalize upd G4 p5 (.lst [.non, .bl true, .bl false, .int 0, .int 1, .int (-1), .int 7, .int 100000000, .str (S []), .str (S [97]), .str (S [110]), .str (S [110, 102, 115]), .str (S [108, 97, 119]), .str (S [110, 102, 120]), .ref p1, .ref p2, .ref p3, .ref p4]) = G5 at *
    walk_at "r"
    refine ⟨by show 2 ≤ sizeLine; decide, fun p6 hp6 => ?_⟩
    have fp6 : (upd G5 p6 (.tup [.str (S []), .str (S [110])])) p6 = some (.tup [.str (S []), .str (S [110])]) := upd_same
    have sp6 := same_new hp6 (o := .tup [.str (S []), .str (S [110])])
    have np6 : p6 ≠ a := hP.fresh hp6
    replace fp1 := sp6 _ _ fp1
    replace fp2 := sp6 _ _ fp2
    replace fp3 := sp6 _ _ fp3
    replace fp4 := sp6 _ _ fp4
    replace fp5 := sp6 _ _ fp5
    replace hP := hP.same sp6
    replace hb := hb.trans (But.of sp6)
    clear sp6
    generalize upd G5 p6 (.tup [.str (S []), .str (S [110])]) = G6 at *
    walk_at "r"
    refine ⟨by show 2 ≤ sizeLine; decide, fun p7 hp7 => ?_⟩
    have fp7 : (upd G6 p7 (.tup [.str (S [110]), .str (S [])])) p7 = some (.tup [.str (S [110]), .str (S [])]) := upd_same
    have sp7 := same_new hp7 (o := .tup [.str (S [110]), .str (S [])])
    have np7 : p7 ≠ a := hP.fresh hp7
    replace fp1 := sp7 _ _ fp1
    replace fp2 := sp7 _ _ fp2
    replace fp3 := sp7 _ _ fp3
    replace fp4 := sp7 _ _ fp4
    replace fp5 := sp7 _ _ fp5
    replace fp6 := sp7 _ _ fp6
    replace hP := hP.same sp7
    replace hb := hb.trans (But.of sp7)
    clear sp7
    generalize upd G6 p7 (.tup [.str (S [110]), .str (S [])]) = G7 at *
    walk_at "r"
    refine ⟨by show 2 ≤ sizeLine; decide, fun p8 hp8 => ?_⟩
    have fp8 : (upd G7 p8 (.tup [.str (S [110, 102]), .str (S [115])])) p8 = some (.tup [.str (S [110, 102]), .str (S [115])]) := upd_same
    have sp8 := same_new hp8 (o := .tup [.str (S [110, 102]), .str (S [115])])
    have np8 : p8 ≠ a := hP.fresh hp8
    replace fp1 := sp8 _ _ fp1
    replace fp2 := sp8 _ _ fp2
    replace fp3 := sp8 _ _ fp3
    replace fp4 := sp8 _ _ fp4
    replace fp5 := sp8 _ _ fp5
    replace fp6 := sp8 _ _ fp6
    replace fp7 := sp8 _ _ fp7
    replace hP := hP.same sp8
    replace hb := hb.trans (But.of sp8)
    clear sp8
    generalize upd G7 p8 (.tup [.str (S [110, 102]), .str (S [115])]) = G8 at *
    walk_at "r"
    refine ⟨by show 2 ≤ sizeLine; decide, fun p9 hp9 => ?_⟩
    have fp9 : (upd G8 p9 (.lst [.str (S []), .str (S [110])])) p9 = some (.lst [.str (S []), .str (S [110])]) := upd_same
    have sp9 := same_new hp9 (o := .lst [.str (S []), .str (S [110])])
    have np9 : p9 ≠ a := hP.fresh hp9
    replace fp1 := sp9 _ _ fp1
    replace fp2 := sp9 _ _ fp2
    replace fp3 := sp9 _ _ fp3
    replace fp4 := sp9 _ _ fp4
    replace fp5 := sp9 _ _ fp5
    replace fp6 := sp9 _ _ fp6
    replace fp7 := sp9 _ _ fp7
    replace fp8 := sp9 _ _ fp8
    replace hP := hP.same sp9
    replace hb := hb.trans (But.of sp9)
    clear sp9
    generalize upd G8 p9 (.lst [.str (S []), .str (S [110])]) = G9 at *
    walk_at "r"
    refine ⟨by show 3 ≤ sizeLine; decide, fun p10 hp10 => ?_⟩
    have fp10 : (upd G9 p10 (.tup [.str (S []), .str (S [110]), .str (S [102])])) p10 = some (.tup [.str (S []), .str (S [110]), .str (S [102])]) := upd_same
    have sp10 := same_new hp10 (o := .tup [.str (S []), .str (S [110]), .str (S [102])])
    have np10 : p10 ≠ a := hP.fresh hp10
    replace fp1 := sp10 _ _ fp1
    replace fp2 := sp10 _ _ fp2
    replace fp3 := sp10 _ _ fp3
    replace fp4 := sp10 _ _ fp4
    replace fp5 := sp10 _ _ fp5
    replace fp6 := sp10 _ _ fp6
    replace fp7 := sp10 _ _ fp7
    replace fp8 := sp10 _ _ fp8
    replace fp9 := sp10 _ _ fp9
    replace hP := hP.same sp10
    replace hb := hb.trans (But.of sp10)
    clear sp10
    generalize upd G9 p10 (.tup [.str (S []), .str (S [110]), .str (S [102])]) = G10 at *
    walk_at "r"
    refine ⟨by show 1 ≤ sizeLine; decide, fun p11 hp11 => ?_⟩
    have fp11 : (upd G10 p11 (.tup [.non])) p11 = some (.tup [.non]) := upd_same
    have sp11 := same_new hp11 (o := .tup [.non])
    have np11 : p11 ≠ a := hP.fresh hp11
    replace fp1 := sp11 _ _ fp1
    replace fp2 := sp11 _ _ fp2
    replace fp3 := sp11 _ _ fp3
    replace fp4 := sp11 _ _ fp4
    replace fp5 := sp11 _ _ fp5
    replace fp6 := sp11 _ _ fp6
    replace fp7 := sp11 _ _ fp7
    replace fp8 := sp11 _ _ fp8
    replace fp9 := sp11 _ _ fp9
    replace fp10 := sp11 _ _ fp10
    replace hP := hP.same sp11
    replace hb := hb.trans (But.of sp11)
    clear sp11
    generalize upd G10 p11 (.tup [.non]) = G11 at *
    walk_at "r"
    refine fun p12 hp12 => ?_
    walk_at "r"
    refine ⟨upd_same, [(.inr (S [97]), .int 1)], rfl, by decide, ?_⟩
    rw [upd_upd, show mergeK [] [((.inr (S [97]) : Key), V.int 1)] = [(.inr (S [97]), .int 1)] from rfl]
    have fp12 : (upd G11 p12 (.dK [(.inr (S [97]), .int 1)])) p12 = some (.dK [(.inr (S [97]), .int 1)]) := upd_same
    have sp12 := same_new hp12 (o := .dK [(.inr (S [97]), .int 1)])
    have np12 : p12 ≠ a := hP.fresh hp12
    replace fp1 := sp12 _ _ fp1
    replace fp2 := sp12 _ _ fp2
    replace fp3 := sp12 _ _ fp3
    replace fp4 := sp12 _ _ fp4
    replace fp5 := sp12 _ _ fp5
    replace fp6 := sp12 _ _ fp6
    replace fp7 := sp12 _ _ fp7
    replace fp8 := sp12 _ _ fp8
    replace fp9 := sp12 _ _ fp9
    replace fp10 := sp12 _ _ fp10
    replace fp11 := sp12 _ _ fp11
    replace hP := hP.same sp12
    replace hb := hb.trans (But.of sp12)
    clear sp12
    generalize upd G11 p12 (.dK [(.inr (S [97]), .int 1)]) = G12 at *
    walk_at "r"
    refine ⟨by show 1 ≤ sizeLine; decide, fun p13 hp13 => ?_⟩
    have fp13 : (upd G12 p13 (.tup [.bl true])) p13 = some (.tup [.bl true]) := upd_same
    have sp13 := same_new hp13 (o := .tup [.bl true])
    have np13 : p13 ≠ a := hP.fresh hp13
    replace fp1 := sp13 _ _ fp1
    replace fp2 := sp13 _ _ fp2
    replace fp3 := sp13 _ _ fp3
    replace fp4 := sp13 _ _ fp4
    replace fp5 := sp13 _ _ fp5
    replace fp6 := sp13 _ _ fp6
    replace fp7 := sp13 _ _ fp7
    replace fp8 := sp13 _ _ fp8
    replace fp9 := sp13 _ _ fp9
    replace fp10 := sp13 _ _ fp10
    replace fp11 := sp13 _ _ fp11
    replace fp12 := sp13 _ _ fp12
    replace hP := hP.same sp13
    replace hb := hb.trans (But.of sp13)
    clear sp13
    generalize upd G12 p13 (.tup [.bl true]) = G13 at *
    walk_at "r"
    refine ⟨by show 2 ≤ sizeLine; decide, fun p14 hp14 => ?_⟩
    have fp14 : (upd G13 p14 (.tup [.int 0, .int 1])) p14 = some (.tup [.int 0, .int 1]) := upd_same
    have sp14 := same_new hp14 (o := .tup [.int 0, .int 1])
    have np14 : p14 ≠ a := hP.fresh hp14
    replace fp1 := sp14 _ _ fp1
    replace fp2 := sp14 _ _ fp2
    replace fp3 := sp14 _ _ fp3
    replace fp4 := sp14 _ _ fp4
    replace fp5 := sp14 _ _ fp5
    replace fp6 := sp14 _ _ fp6
    replace fp7 := sp14 _ _ fp7
    replace fp8 := sp14 _ _ fp8
    replace fp9 := sp14 _ _ fp9
    replace fp10 := sp14 _ _ fp10
    replace fp11 := sp14 _ _ fp11
    replace fp12 := sp14 _ _ fp12
    replace fp13 := sp14 _ _ fp13
    replace hP := hP.same sp14
    replace hb := hb.trans (But.of sp14)
    clear sp14
    generalize upd G13 p14 (.tup [.int 0, .int 1]) = G14 at *
    walk_at "r"
    refine ⟨by show 9 ≤ sizeLine; decide, fun p15 hp15 => ?_⟩
    have fp15 : (upd G14 p15 (.lst [.ref p6, .ref p7, .ref p8, .ref p9, .ref p10, .ref p11, .ref p12, .ref p13, .ref p14])) p15 = some (.lst [.ref p6, .ref p7, .ref p8, .ref p9, .ref p10, .ref p11, .ref p12, .ref p13, .ref p14]) := upd_same
    have sp15 := same_new hp15 (o := .lst [.ref p6, .ref p7, .ref p8, .ref p9, .ref p10, .ref p11, .ref p12, .ref p13, .ref p14])
    have np15 : p15 ≠ a := hP.fresh hp15
    replace fp1 := sp15 _ _ fp1
    replace fp2 := sp15 _ _ fp2
    replace fp3 := sp15 _ _ fp3
    replace fp4 := sp15 _ _ fp4
    replace fp5 := sp15 _ _ fp5
    replace fp6 := sp15 _ _ fp6
    replace fp7 := sp15 _ _ fp7
    replace fp8 := sp15 _ _ fp8
    replace fp9 := sp15 _ _ fp9
    replace fp10 := sp15 _ _ fp10
    replace fp11 := sp15 _ _ fp11
    replace fp12 := sp15 _ _ fp12
    replace fp13 := sp15 _ _ fp13
    replace fp14 := sp15 _ _ fp14
    replace hP := hP.same sp15
    replace hb := hb.trans (But.of sp15)
    clear sp15
    generalize upd G14 p15 (.lst [.ref p6, .ref p7, .ref p8, .ref p9, .ref p10, .ref p11, .ref p12, .ref p13, .ref p14]) = G15 at *
    walk_at "r"
    refine r_catL fp5 fp15 (by show 18 + 9 ≤ 1000000; decide) fun pc hpc => ?_
    simp only [List.cons_append, List.nil_append] at *
    have zpc : H pc = none := But.free hb (hP.fresh hpc) hpc
    have fpc : (upd G15 pc (.lst [.non, .bl true, .bl false, .int 0, .int 1, .int (-1), .int 7, .int 100000000, .str (S []), .str (S [97]), .str (S [110]), .str (S [110, 102, 115]), .str (S [108, 97, 119]), .str (S [110, 102, 120]), .ref p1, .ref p2, .ref p3, .ref p4, .ref p6, .ref p7, .ref p8, .ref p9, .ref p10, .ref p11, .ref p12, .ref p13, .ref p14])) pc = some (.lst [.non, .bl true, .bl false, .int 0, .int 1, .int (-1), .int 7, .int 100000000, .str (S []), .str (S [97]), .str (S [110]), .str (S [110, 102, 115]), .str (S [108, 97, 119]), .str (S [110, 102, 120]), .ref p1, .ref p2, .ref p3, .ref p4, .ref p6, .ref p7, .ref p8, .ref p9, .ref p10, .ref p11, .ref p12, .ref p13, .ref p14]) := upd_same
    have spc := same_new hpc (o := .lst [.non, .bl true, .bl false, .int 0, .int 1, .int (-1), .int 7, .int 100000000, .str (S []), .str (S [97]), .str (S [110]), .str (S [110, 102, 115]), .str (S [108, 97, 119]), .str (S [110, 102, 120]), .ref p1, .ref p2, .ref p3, .ref p4, .ref p6, .ref p7, .ref p8, .ref p9, .ref p10, .ref p11, .ref p12, .ref p13, .ref p14])
    have npc : pc ≠ a := hP.fresh hpc
    replace fp1 := spc _ _ fp1
    replace fp2 := spc _ _ fp2
    replace fp3 := spc _ _ fp3
    replace fp4 := spc _ _ fp4
    replace fp5 := spc _ _ fp5
    replace fp6 := spc _ _ fp6
    replace fp7 := spc _ _ fp7
    replace fp8 := spc _ _ fp8
    replace fp9 := spc _ _ fp9
    replace fp10 := spc _ _ fp10
    replace fp11 := spc _ _ fp11
    replace fp12 := spc _ _ fp12
    replace fp13 := spc _ _ fp13
    replace fp14 := spc _ _ fp14
    replace fp15 := spc _ _ fp15
    replace hP := hP.same spc
    replace hb := hb.trans (But.of spc)
    clear spc
    generalize upd G15 pc (.lst [.non, .bl true, .bl false, .int 0, .int 1, .int (-1), .int 7, .int 100000000, .str (S []), .str (S [97]), .str (S [110]), .str (S [110, 102, 115]), .str (S [108, 97, 119]), .str (S [110, 102, 120]), .ref p1, .ref p2, .ref p3, .ref p4, .ref p6, .ref p7, .ref p8, .ref p9, .ref p10, .ref p11, .ref p12, .ref p13, .ref p14]) = G16 at *
    walk_at "r"
    refine ⟨_, rfl, .inl ⟨rfl, _, SqL.of fpc⟩, ?_⟩
    walk_at "r"
    refine ⟨by show 2 ≤ sizeLine; decide, fun p17 hp17 => ?_⟩
    have fp17 : (upd G16 p17 (.tup [.str (S []), .str (S [110])])) p17 = some (.tup [.str (S []), .str (S [110])]) := upd_same
    have sp17 := same_new hp17 (o := .tup [.str (S []), .str (S [110])])
    have np17 : p17 ≠ a := hP.fresh hp17
    replace fp1 := sp17 _ _ fp1
    replace fp2 := sp17 _ _ fp2
    replace fp3 := sp17 _ _ fp3
    replace fp4 := sp17 _ _ fp4
    replace fp5 := sp17 _ _ fp5
    replace fp6 := sp17 _ _ fp6
    replace fp7 := sp17 _ _ fp7
    replace fp8 := sp17 _ _ fp8
    replace fp9 := sp17 _ _ fp9
    replace fp10 := sp17 _ _ fp10
    replace fp11 := sp17 _ _ fp11
    replace fp12 := sp17 _ _ fp12
    replace fp13 := sp17 _ _ fp13
    replace fp14 := sp17 _ _ fp14
    replace fp15 := sp17 _ _ fp15
    replace fpc := sp17 _ _ fpc
    replace hP := hP.same sp17
    replace hb := hb.trans (But.of sp17)
    clear sp17
    generalize upd G16 p17 (.tup [.str (S []), .str (S [110])]) = G17 at *
    walk_at "r"
    refine ⟨by show 1 ≤ sizeLine; decide, fun p18 hp18 => ?_⟩
    have fp18 : (upd G17 p18 (.tup [.ref p17])) p18 = some (.tup [.ref p17]) := upd_same
    have sp18 := same_new hp18 (o := .tup [.ref p17])
    have np18 : p18 ≠ a := hP.fresh hp18
    replace fp1 := sp18 _ _ fp1
    replace fp2 := sp18 _ _ fp2
    replace fp3 := sp18 _ _ fp3
    replace fp4 := sp18 _ _ fp4
    replace fp5 := sp18 _ _ fp5
    replace fp6 := sp18 _ _ fp6
    replace fp7 := sp18 _ _ fp7
    replace fp8 := sp18 _ _ fp8
    replace fp9 := sp18 _ _ fp9
    replace fp10 := sp18 _ _ fp10
    replace fp11 := sp18 _ _ fp11
    replace fp12 := sp18 _ _ fp12
    replace fp13 := sp18 _ _ fp13
    replace fp14 := sp18 _ _ fp14
    replace fp15 := sp18 _ _ fp15
    replace fpc := sp18 _ _ fpc
    replace fp17 := sp18 _ _ fp17
    replace hP := hP.same sp18
    replace hb := hb.trans (But.of sp18)
    clear sp18
    generalize upd G17 p18 (.tup [.ref p17]) = G18 at *
    walk_at "r"
    refine ⟨by show 2 ≤ sizeLine; decide, fun p19 hp19 => ?_⟩
    have fp19 : (upd G18 p19 (.tup [.str (S []), .str (S [110])])) p19 = some (.tup [.str (S []), .str (S [110])]) := upd_same
    have sp19 := same_new hp19 (o := .tup [.str (S []), .str (S [110])])
    have np19 : p19 ≠ a := hP.fresh hp19
    replace fp1 := sp19 _ _ fp1
    replace fp2 := sp19 _ _ fp2
    replace fp3 := sp19 _ _ fp3
    replace fp4 := sp19 _ _ fp4
    replace fp5 := sp19 _ _ fp5
    replace fp6 := sp19 _ _ fp6
    replace fp7 := sp19 _ _ fp7
    replace fp8 := sp19 _ _ fp8
    replace fp9 := sp19 _ _ fp9
    replace fp10 := sp19 _ _ fp10
    replace fp11 := sp19 _ _ fp11
    replace fp12 := sp19 _ _ fp12
    replace fp13 := sp19 _ _ fp13
    replace fp14 := sp19 _ _ fp14
    replace fp15 := sp19 _ _ fp15
    replace fpc := sp19 _ _ fpc
    replace fp17 := sp19 _ _ fp17
    replace fp18 := sp19 _ _ fp18
    replace hP := hP.same sp19
    replace hb := hb.trans (But.of sp19)
    clear sp19
    generalize upd G18 p19 (.tup [.str (S []), .str (S [110])]) = G19 at *
    walk_at "r"
    refine ⟨by show 2 ≤ sizeLine; decide, fun p20 hp20 => ?_⟩
    have fp20 : (upd G19 p20 (.tup [.str (S [121, 101, 115]), .ref p19])) p20 = some (.tup [.str (S [121, 101, 115]), .ref p19]) := upd_same
    have sp20 := same_new hp20 (o := .tup [.str (S [121, 101, 115]), .ref p19])
    have np20 : p20 ≠ a := hP.fresh hp20
    replace fp1 := sp20 _ _ fp1
    replace fp2 := sp20 _ _ fp2
    replace fp3 := sp20 _ _ fp3
    replace fp4 := sp20 _ _ fp4
    replace fp5 := sp20 _ _ fp5
    replace fp6 := sp20 _ _ fp6
    replace fp7 := sp20 _ _ fp7
    replace fp8 := sp20 _ _ fp8
    replace fp9 := sp20 _ _ fp9
    replace fp10 := sp20 _ _ fp10
    replace fp11 := sp20 _ _ fp11
    replace fp12 := sp20 _ _ fp12
    replace fp13 := sp20 _ _ fp13
    replace fp14 := sp20 _ _ fp14
    replace fp15 := sp20 _ _ fp15
    replace fpc := sp20 _ _ fpc
    replace fp17 := sp20 _ _ fp17
    replace fp18 := sp20 _ _ fp18
    replace fp19 := sp20 _ _ fp19
    replace hP := hP.same sp20
    replace hb := hb.trans (But.of sp20)
    clear sp20
    generalize upd G19 p20 (.tup [.str (S [121, 101, 115]), .ref p19]) = G20 at *
    walk_at "r"
    refine ⟨by show 0 ≤ sizeLine; decide, fun p21 hp21 => ?_⟩
    have fp21 : (upd G20 p21 (.tup [])) p21 = some (.tup []) := upd_same
    have sp21 := same_new hp21 (o := .tup [])
    have np21 : p21 ≠ a := hP.fresh hp21
    replace fp1 := sp21 _ _ fp1
    replace fp2 := sp21 _ _ fp2
    replace fp3 := sp21 _ _ fp3
    replace fp4 := sp21 _ _ fp4
    replace fp5 := sp21 _ _ fp5
    replace fp6 := sp21 _ _ fp6
    replace fp7 := sp21 _ _ fp7
    replace fp8 := sp21 _ _ fp8
    replace fp9 := sp21 _ _ fp9
    replace fp10 := sp21 _ _ fp10
    replace fp11 := sp21 _ _ fp11
    replace fp12 := sp21 _ _ fp12
    replace fp13 := sp21 _ _ fp13
    replace fp14 := sp21 _ _ fp14
    replace fp15 := sp21 _ _ fp15
    replace fpc := sp21 _ _ fpc
    replace fp17 := sp21 _ _ fp17
    replace fp18 := sp21 _ _ fp18
    replace fp19 := sp21 _ _ fp19
    replace fp20 := sp21 _ _ fp20
    replace hP := hP.same sp21
    replace hb := hb.trans (But.of sp21)
    clear sp21
    generalize upd G20 p21 (.tup []) = G21 at *
    walk_at "r"
    refine ⟨by show 2 ≤ sizeLine; decide, fun p22 hp22 => ?_⟩
    have fp22 : (upd G21 p22 (.tup [.str (S [110, 111]), .ref p21])) p22 = some (.tup [.str (S [110, 111]), .ref p21]) := upd_same
    have sp22 := same_new hp22 (o := .tup [.str (S [110, 111]), .ref p21])
    have np22 : p22 ≠ a := hP.fresh hp22
    replace fp1 := sp22 _ _ fp1
    replace fp2 := sp22 _ _ fp2
    replace fp3 := sp22 _ _ fp3
    replace fp4 := sp22 _ _ fp4
    replace fp5 := sp22 _ _ fp5
    replace fp6 := sp22 _ _ fp6
    replace fp7 := sp22 _ _ fp7
    replace fp8 := sp22 _ _ fp8
    replace fp9 := sp22 _ _ fp9
    replace fp10 := sp22 _ _ fp10
    replace fp11 := sp22 _ _ fp11
    replace fp12 := sp22 _ _ fp12
    replace fp13 := sp22 _ _ fp13
    replace fp14 := sp22 _ _ fp14
    replace fp15 := sp22 _ _ fp15
    replace fpc := sp22 _ _ fpc
    replace fp17 := sp22 _ _ fp17
    replace fp18 := sp22 _ _ fp18
    replace fp19 := sp22 _ _ fp19
    replace fp20 := sp22 _ _ fp20
    replace fp21 := sp22 _ _ fp21
    replace hP := hP.same sp22
    replace hb := hb.trans (But.of sp22)
    clear sp22
    generalize upd G21 p22 (.tup [.str (S [110, 111]), .ref p21]) = G22 at *
    walk_at "r"
    refine ⟨by show 2 ≤ sizeLine; decide, fun p23 hp23 => ?_⟩
    have fp23 : (upd G22 p23 (.tup [.int 2, .int 4])) p23 = some (.tup [.int 2, .int 4]) := upd_same
    have sp23 := same_new hp23 (o := .tup [.int 2, .int 4])
    have np23 : p23 ≠ a := hP.fresh hp23
    replace fp1 := sp23 _ _ fp1
    replace fp2 := sp23 _ _ fp2
    replace fp3 := sp23 _ _ fp3
    replace fp4 := sp23 _ _ fp4
    replace fp5 := sp23 _ _ fp5
    replace fp6 := sp23 _ _ fp6
    replace fp7 := sp23 _ _ fp7
    replace fp8 := sp23 _ _ fp8
    replace fp9 := sp23 _ _ fp9
    replace fp10 := sp23 _ _ fp10
    replace fp11 := sp23 _ _ fp11
    replace fp12 := sp23 _ _ fp12
    replace fp13 := sp23 _ _ fp13
    replace fp14 := sp23 _ _ fp14
    replace fp15 := sp23 _ _ fp15
    replace fpc := sp23 _ _ fpc
    replace fp17 := sp23 _ _ fp17
    replace fp18 := sp23 _ _ fp18
    replace fp19 := sp23 _ _ fp19
    replace fp20 := sp23 _ _ fp20
    replace fp21 := sp23 _ _ fp21
    replace fp22 := sp23 _ _ fp22
    replace hP := hP.same sp23
    replace hb := hb.trans (But.of sp23)
    clear sp23
    generalize upd G22 p23 (.tup [.int 2, .int 4]) = G23 at *
    walk_at "r"
    refine ⟨by show 2 ≤ sizeLine; decide, fun p24 hp24 => ?_⟩
    have fp24 : (upd G23 p24 (.tup [.str (S [78]), .str (S [110])])) p24 = some (.tup [.str (S [78]), .str (S [110])]) := upd_same
    have sp24 := same_new hp24 (o := .tup [.str (S [78]), .str (S [110])])
    have np24 : p24 ≠ a := hP.fresh hp24
    replace fp1 := sp24 _ _ fp1
    replace fp2 := sp24 _ _ fp2
    replace fp3 := sp24 _ _ fp3
    replace fp4 := sp24 _ _ fp4
    replace fp5 := sp24 _ _ fp5
    replace fp6 := sp24 _ _ fp6
    replace fp7 := sp24 _ _ fp7
    replace fp8 := sp24 _ _ fp8
    replace fp9 := sp24 _ _ fp9
    replace fp10 := sp24 _ _ fp10
    replace fp11 := sp24 _ _ fp11
    replace fp12 := sp24 _ _ fp12
    replace fp13 := sp24 _ _ fp13
    replace fp14 := sp24 _ _ fp14
    replace fp15 := sp24 _ _ fp15
    replace fpc := sp24 _ _ fpc
    replace fp17 := sp24 _ _ fp17
    replace fp18 := sp24 _ _ fp18
    replace fp19 := sp24 _ _ fp19
    replace fp20 := sp24 _ _ fp20
    replace fp21 := sp24 _ _ fp21
    replace fp22 := sp24 _ _ fp22
    replace fp23 := sp24 _ _ fp23
    replace hP := hP.same sp24
    replace hb := hb.trans (But.of sp24)
    clear sp24
    generalize upd G23 p24 (.tup [.str (S [78]), .str (S [110])]) = G24 at *
    walk_at "r"
    refine ⟨by show 2 ≤ sizeLine; decide, fun p25 hp25 => ?_⟩
    have fp25 : (upd G24 p25 (.tup [.int 1, .int 1])) p25 = some (.tup [.int 1, .int 1]) := upd_same
    have sp25 := same_new hp25 (o := .tup [.int 1, .int 1])
    have np25 : p25 ≠ a := hP.fresh hp25
    replace fp1 := sp25 _ _ fp1
    replace fp2 := sp25 _ _ fp2
    replace fp3 := sp25 _ _ fp3
    replace fp4 := sp25 _ _ fp4
    replace fp5 := sp25 _ _ fp5
    replace fp6 := sp25 _ _ fp6
    replace fp7 := sp25 _ _ fp7
    replace fp8 := sp25 _ _ fp8
    replace fp9 := sp25 _ _ fp9
    replace fp10 := sp25 _ _ fp10
    replace fp11 := sp25 _ _ fp11
    replace fp12 := sp25 _ _ fp12
    replace fp13 := sp25 _ _ fp13
    replace fp14 := sp25 _ _ fp14
    replace fp15 := sp25 _ _ fp15
    replace fpc := sp25 _ _ fpc
    replace fp17 := sp25 _ _ fp17
    replace fp18 := sp25 _ _ fp18
    replace fp19 := sp25 _ _ fp19
    replace fp20 := sp25 _ _ fp20
    replace fp21 := sp25 _ _ fp21
    replace fp22 := sp25 _ _ fp22
    replace fp23 := sp25 _ _ fp23
    replace fp24 := sp25 _ _ fp24
    replace hP := hP.same sp25
    replace hb := hb.trans (But.of sp25)
    clear sp25
    generalize upd G24 p25 (.tup [.int 1, .int 1]) = G25 at *
    walk_at "r"
    refine ⟨by show 1 ≤ sizeLine; decide, fun p26 hp26 => ?_⟩
    have fp26 : (upd G25 p26 (.tup [.str (S [102, 105, 114, 115, 116])])) p26 = some (.tup [.str (S [102, 105, 114, 115, 116])]) := upd_same
    have sp26 := same_new hp26 (o := .tup [.str (S [102, 105, 114, 115, 116])])
    have np26 : p26 ≠ a := hP.fresh hp26
    replace fp1 := sp26 _ _ fp1
    replace fp2 := sp26 _ _ fp2
    replace fp3 := sp26 _ _ fp3
    replace fp4 := sp26 _ _ fp4
    replace fp5 := sp26 _ _ fp5
    replace fp6 := sp26 _ _ fp6
    replace fp7 := sp26 _ _ fp7
    replace fp8 := sp26 _ _ fp8
    replace fp9 := sp26 _ _ fp9
    replace fp10 := sp26 _ _ fp10
    replace fp11 := sp26 _ _ fp11
    replace fp12 := sp26 _ _ fp12
    replace fp13 := sp26 _ _ fp13
    replace fp14 := sp26 _ _ fp14
    replace fp15 := sp26 _ _ fp15
    replace fpc := sp26 _ _ fpc
    replace fp17 := sp26 _ _ fp17
    replace fp18 := sp26 _ _ fp18
    replace fp19 := sp26 _ _ fp19
    replace fp20 := sp26 _ _ fp20
    replace fp21 := sp26 _ _ fp21
    replace fp22 := sp26 _ _ fp22
    replace fp23 := sp26 _ _ fp23
    replace fp24 := sp26 _ _ fp24
    replace fp25 := sp26 _ _ fp25
    replace hP := hP.same sp26
    replace hb := hb.trans (But.of sp26)
    clear sp26
    generalize upd G25 p26 (.tup [.str (S [102, 105, 114, 115, 116])]) = G26 at *
    walk_at "r"
    refine ⟨by show 8 ≤ sizeLine; decide, fun p27 hp27 => ?_⟩
    have fp27 : (upd G26 p27 (.lst [.ref p18, .ref p20, .ref p22, .ref p23, .ref p24, .ref p25, .ref p26, .str (S [70])])) p27 = some (.lst [.ref p18, .ref p20, .ref p22, .ref p23, .ref p24, .ref p25, .ref p26, .str (S [70])]) := upd_same
    have sp27 := same_new hp27 (o := .lst [.ref p18, .ref p20, .ref p22, .ref p23, .ref p24, .ref p25, .ref p26, .str (S [70])])
    have np27 : p27 ≠ a := hP.fresh hp27
    replace fp1 := sp27 _ _ fp1
    replace fp2 := sp27 _ _ fp2
    replace fp3 := sp27 _ _ fp3
    replace fp4 := sp27 _ _ fp4
    replace fp5 := sp27 _ _ fp5
    replace fp6 := sp27 _ _ fp6
    replace fp7 := sp27 _ _ fp7
    replace fp8 := sp27 _ _ fp8
    replace fp9 := sp27 _ _ fp9
    replace fp10 := sp27 _ _ fp10
    replace fp11 := sp27 _ _ fp11
    replace fp12 := sp27 _ _ fp12
    replace fp13 := sp27 _ _ fp13
    replace fp14 := sp27 _ _ fp14
    replace fp15 := sp27 _ _ fp15
    replace fpc := sp27 _ _ fpc
    replace fp17 := sp27 _ _ fp17
    replace fp18 := sp27 _ _ fp18
    replace fp19 := sp27 _ _ fp19
    replace fp20 := sp27 _ _ fp20
    replace fp21 := sp27 _ _ fp21
    replace fp22 := sp27 _ _ fp22
    replace fp23 := sp27 _ _ fp23
    replace fp24 := sp27 _ _ fp24
    replace fp25 := sp27 _ _ fp25
    replace fp26 := sp27 _ _ fp26
    replace hP := hP.same sp27
    replace hb := hb.trans (But.of sp27)
    clear sp27
    generalize upd G26 p27 (.lst [.ref p18, .ref p20, .ref p22, .ref p23, .ref p24, .ref p25, .ref p26, .str (S [70])]) = G27 at *
    walk_at "r"
    refine ⟨pc, p27, _, _, rfl, rfl, fpc, fp27, by show 27 + 8 ≤ sizeLine; decide, ?_⟩
    walk_at "r"
    refine ⟨a, pc, _, c, rfl, hP.ne npc, by omega, SqL.of upd_same, npc, by show 0 < 35; decide, by show 35 ≤ 1000000; decide, fun Hz x bz Pz hx => ?_⟩
    have bb := (hb.mut (o := .lst ([.non, .bl true, .bl false, .int 0, .int 1, .int (-1), .int 7, .int 100000000, .str (S []), .str (S [97]), .str (S [110]), .str (S [110, 102, 115]), .str (S [108, 97, 119]), .str (S [110, 102, 120]), .ref p1, .ref p2, .ref p3, .ref p4, .ref p6, .ref p7, .ref p8, .ref p9, .ref p10, .ref p11, .ref p12, .ref p13, .ref p14] ++ [.ref p18, .ref p20, .ref p22, .ref p23, .ref p24, .ref p25, .ref p26, .str (S [70])])) zpc).trans bz
    simp only [List.cons_append, List.nil_append, List.mem_cons, List.not_mem_nil, or_false] at hx
    have gp1 := bz _ _ np1 ((upd_ne (ne_of fp1 fpc (fun z => by cases z))).trans fp1)
    have gp10 := bz _ _ np10 ((upd_ne (ne_of fp10 fpc (fun z => by cases z))).trans fp10)
    have gp11 := bz _ _ np11 ((upd_ne (ne_of fp11 fpc (fun z => by cases z))).trans fp11)
    have gp12 := bz _ _ np12 ((upd_ne (ne_of fp12 fpc (fun z => by cases z))).trans fp12)
    have gp13 := bz _ _ np13 ((upd_ne (ne_of fp13 fpc (fun z => by cases z))).trans fp13)
    have gp14 := bz _ _ np14 ((upd_ne (ne_of fp14 fpc (fun z => by cases z))).trans fp14)
    have gp17 := bz _ _ np17 ((upd_ne (ne_of fp17 fpc (fun z => by cases z))).trans fp17)
    have gp18 := bz _ _ np18 ((upd_ne (ne_of fp18 fpc (fun z => by cases z))).trans fp18)
    have gp19 := bz _ _ np19 ((upd_ne (ne_of fp19 fpc (fun z => by cases z))).trans fp19)
    have gp2 := bz _ _ np2 ((upd_ne (ne_of fp2 fpc (fun z => by cases z))).trans fp2)
    have gp20 := bz _ _ np20 ((upd_ne (ne_of fp20 fpc (fun z => by cases z))).trans fp20)
    have gp21 := bz _ _ np21 ((upd_ne (ne_of fp21 fpc (fun z => by cases z))).trans fp21)
    have gp22 := bz _ _ np22 ((upd_ne (ne_of fp22 fpc (fun z => by cases z))).trans fp22)
    have gp23 := bz _ _ np23 ((upd_ne (ne_of fp23 fpc (fun z => by cases z))).trans fp23)
    have gp24 := bz _ _ np24 ((upd_ne (ne_of fp24 fpc (fun z => by cases z))).trans fp24)
    have gp25 := bz _ _ np25 ((upd_ne (ne_of fp25 fpc (fun z => by cases z))).trans fp25)
    have gp26 := bz _ _ np26 ((upd_ne (ne_of fp26 fpc (fun z => by cases z))).trans fp26)
    have gp3 := bz _ _ np3 ((upd_ne (ne_of fp3 fpc (fun z => by cases z))).trans fp3)
    have gp4 := bz _ _ np4 ((upd_ne (ne_of fp4 fpc (fun z => by cases z))).trans fp4)
    have gp6 := bz _ _ np6 ((upd_ne (ne_of fp6 fpc (fun z => by cases z))).trans fp6)
    have gp7 := bz _ _ np7 ((upd_ne (ne_of fp7 fpc (fun z => by cases z))).trans fp7)
    have gp8 := bz _ _ np8 ((upd_ne (ne_of fp8 fpc (fun z => by cases z))).trans fp8)
    have gp9 := bz _ _ np9 ((upd_ne (ne_of fp9 fpc (fun z => by cases z))).trans fp9)
    rcases hx with rfl | rfl | rfl | rfl | rfl | rfl | rfl | rfl | rfl | rfl | rfl | rfl | rfl | rfl | rfl | rfl | rfl | rfl | rfl | rfl | rfl | rfl | rfl | rfl | rfl | rfl | rfl | rfl | rfl | rfl | rfl | rfl | rfl | rfl | rfl
    · exact q _ _ (.none) bb Pz ⟨dat_non, by decide +kernel, by decide +kernel, by decide +kernel⟩
    · exact q _ _ (.bool true) bb Pz ⟨dat_bl, by decide +kernel, by decide +kernel, by decide +kernel⟩
    · exact q _ _ (.bool false) bb Pz ⟨dat_bl, by decide +kernel, by decide +kernel, by decide +kernel⟩
    · exact q _ _ (.int 0) bb Pz ⟨(dat_int (by decide)), by decide +kernel, by decide +kernel, by decide +kernel⟩
    · exact q _ _ (.int 1) bb Pz ⟨(dat_int (by decide)), by decide +kernel, by decide +kernel, by decide +kernel⟩
    · exact q _ _ (.int (-1)) bb Pz ⟨(dat_int (by decide)), by decide +kernel, by decide +kernel, by decide +kernel⟩
    · exact q _ _ (.int 7) bb Pz ⟨(dat_int (by decide)), by decide +kernel, by decide +kernel, by decide +kernel⟩
    · exact q _ _ (.int 100000000) bb Pz ⟨(dat_int (by decide)), by decide +kernel, by decide +kernel, by decide +kernel⟩
    · exact q _ _ (.str (S [])) bb Pz ⟨(dat_S (by decide)), by decide +kernel, by decide +kernel, by decide +kernel⟩
    · exact q _ _ (.str (S [97])) bb Pz ⟨(dat_S (by decide)), by decide +kernel, by decide +kernel, by decide +kernel⟩
    · exact q _ _ (.str (S [110])) bb Pz ⟨(dat_S (by decide)), by decide +kernel, by decide +kernel, by decide +kernel⟩
    · exact q _ _ (.str (S [110, 102, 115])) bb Pz ⟨(dat_S (by decide)), by decide +kernel, by decide +kernel, by decide +kernel⟩
    · exact q _ _ (.str (S [108, 97, 119])) bb Pz ⟨(dat_S (by decide)), by decide +kernel, by decide +kernel, by decide +kernel⟩
    · exact q _ _ (.str (S [110, 102, 120])) bb Pz ⟨(dat_S (by decide)), by decide +kernel, by decide +kernel, by decide +kernel⟩
    · exact q _ _ (.tuple []) bb Pz ⟨(dat_tup (SqT.of gp1) datL_nil), by decide +kernel, by decide +kernel, by decide +kernel⟩
    · exact q _ _ (.list []) bb Pz ⟨(dat_lst np2 (SqL.of gp2) datL_nil), by decide +kernel, by decide +kernel, by decide +kernel⟩
    · exact q _ _ (.dict []) bb Pz ⟨(dat_dic gp3 datK_nil), by decide +kernel, by decide +kernel, by decide +kernel⟩
    · exact q _ _ (.tuple [.int 0]) bb Pz ⟨(dat_tup (SqT.of gp4) (datL_cons (dat_int (by decide)) datL_nil)), by decide +kernel, by decide +kernel, by decide +kernel⟩
    · exact q _ _ (.tuple [.str (S []), .str (S [110])]) bb Pz ⟨(dat_tup (SqT.of gp6) (datL_cons (dat_S (by decide)) (datL_cons (dat_S (by decide)) datL_nil))), by decide +kernel, by decide +kernel, by decide +kernel⟩
    · exact q _ _ (.tuple [.str (S [110]), .str (S [])]) bb Pz ⟨(dat_tup (SqT.of gp7) (datL_cons (dat_S (by decide)) (datL_cons (dat_S (by decide)) datL_nil))), by decide +kernel, by decide +kernel, by decide +kernel⟩
    · exact q _ _ (.tuple [.str (S [110, 102]), .str (S [115])]) bb Pz ⟨(dat_tup (SqT.of gp8) (datL_cons (dat_S (by decide)) (datL_cons (dat_S (by decide)) datL_nil))), by decide +kernel, by decide +kernel, by decide +kernel⟩
    · exact q _ _ (.list [.str (S []), .str (S [110])]) bb Pz ⟨(dat_lst np9 (SqL.of gp9) (datL_cons (dat_S (by decide)) (datL_cons (dat_S (by decide)) datL_nil))), by decide +kernel, by decide +kernel, by decide +kernel⟩
    · exact q _ _ (.tuple [.str (S []), .str (S [110]), .str (S [102])]) bb Pz ⟨(dat_tup (SqT.of gp10) (datL_cons (dat_S (by decide)) (datL_cons (dat_S (by decide)) (datL_cons (dat_S (by decide)) datL_nil)))), by decide +kernel, by decide +kernel, by decide +kernel⟩
    · exact q _ _ (.tuple [.none]) bb Pz ⟨(dat_tup (SqT.of gp11) (datL_cons dat_non datL_nil)), by decide +kernel, by decide +kernel, by decide +kernel⟩
    · exact q _ _ (.dict [(.str (S [97]), .int 1)]) bb Pz ⟨(dat_dic gp12 (datK_cons (by decide) (dat_int (by decide)) datK_nil)), by decide +kernel, by decide +kernel, by decide +kernel⟩
    · exact q _ _ (.tuple [.bool true]) bb Pz ⟨(dat_tup (SqT.of gp13) (datL_cons dat_bl datL_nil)), by decide +kernel, by decide +kernel, by decide +kernel⟩
    · exact q _ _ (.tuple [.int 0, .int 1]) bb Pz ⟨(dat_tup (SqT.of gp14) (datL_cons (dat_int (by decide)) (datL_cons (dat_int (by decide)) datL_nil))), by decide +kernel, by decide +kernel, by decide +kernel⟩
    · exact q _ _ (.tuple [.tuple [.str (S []), .str (S [110])]]) bb Pz ⟨(dat_tup (SqT.of gp18) (datL_cons (dat_tup (SqT.of gp17) (datL_cons (dat_S (by decide)) (datL_cons (dat_S (by decide)) datL_nil))) datL_nil)), by decide +kernel, by decide +kernel, by decide +kernel⟩
    · exact q _ _ (.tuple [.str (S [121, 101, 115]), .tuple [.str (S []), .str (S [110])]]) bb Pz ⟨(dat_tup (SqT.of gp20) (datL_cons (dat_S (by decide)) (datL_cons (dat_tup (SqT.of gp19) (datL_cons (dat_S (by decide)) (datL_cons (dat_S (by decide)) datL_nil))) datL_nil))), by decide +kernel, by decide +kernel, by decide +kernel⟩
    · exact q _ _ (.tuple [.str (S [110, 111]), .tuple []]) bb Pz ⟨(dat_tup (SqT.of gp22) (datL_cons (dat_S (by decide)) (datL_cons (dat_tup (SqT.of gp21) datL_nil) datL_nil))), by decide +kernel, by decide +kernel, by decide +kernel⟩
    · exact q _ _ (.tuple [.int 2, .int 4]) bb Pz ⟨(dat_tup (SqT.of gp23) (datL_cons (dat_int (by decide)) (datL_cons (dat_int (by decide)) datL_nil))), by decide +kernel, by decide +kernel, by decide +kernel⟩
    · exact q _ _ (.tuple [.str (S [78]), .str (S [110])]) bb Pz ⟨(dat_tup (SqT.of gp24) (datL_cons (dat_S (by decide)) (datL_cons (dat_S (by decide)) datL_nil))), by decide +kernel, by decide +kernel, by decide +kernel⟩
    · exact q _ _ (.tuple [.int 1, .int 1]) bb Pz ⟨(dat_tup (SqT.of gp25) (datL_cons (dat_int (by decide)) (datL_cons (dat_int (by decide)) datL_nil))), by decide +kernel, by decide +kernel, by decide +kernel⟩
    · exact q _ _ (.tuple [.str (S [102, 105, 114, 115, 116])]) bb Pz ⟨(dat_tup (SqT.of gp26) (datL_cons (dat_S (by decide)) datL_nil)), by decide +kernel, by decide +kernel, by decide +kernel⟩
    · exact q _ _ (.str (S [70])) bb Pz ⟨(dat_S (by decide)), by decide +kernel, by decide +kernel, by decide +kernel⟩

def sp_Lsome (K : PySem.W.Frag) : Sp := fun vs H Q _ => ∃ (a l : Addr) (xs : List V) (m : Nat) (c : Int), vs = [.ref a, .ref l, .int m] ∧ PotAt H a c ∧ c ≤ 900000 ∧ SqL K H l xs ∧ l ≠ a ∧ m < xs.length ∧ xs.length ≤ 1000 ∧ ∀ H' p ys, But a H H' → PotAt H' a (c + m) → p ≠ a → H p = none → H' p = some (.lst ys) → ys.length = m → (∀ y ∈ ys, y ∈ xs) → Q (.ref p) H'
theorem ok_Lsome (T : Txt K mg) : Ok P w K mg base CX0 (2) "_law_some" s_Lsome ["pot", "pool", "many"] (sp_Lsome K) := by
  obtain ⟨fd, D⟩ := T.d_Lsome
  refine ⟨⟨_, fd, T.g__law_some, D, D.bindsN (fun _ _ _ _ _ _ us hl => match us, hl with | [_, _, _], _ => rfl), ?_⟩⟩
  refine D.ok sc_Lsome (fun vs H Q E h => ?_) (fun cdv A outer s H vs Q E hr h => ?_)
  · obtain ⟨a, l, xs, m, c, rfl, hP, hc, hl, hla, hm, hz, q⟩ := h
    rfl
  · obtain ⟨a, l, xs, m, c, rfl, hP, hc, hl, hla, hm, hz, q⟩ := h
    have F_Ltake := ok_Ltake (P := P) (w := w) (K := K) (mg := mg) (base := base) T
    refine ⟨_, PSs.nox (pss_cons (ps_par (i := 4) (j := 5) (by rfl) sc_Lsome.nd rfl rfl (by decide) rfl rfl (pa_cons (pe_callTy k_listOf (by rfl) T.z_list (by decide +kernel) (pa_cons (pv 1) pa_nil)) (pa_cons (pe_lst pa_nil) pa_nil)) (by rfl))
      (pss_cons (ps_for PassesOwn.never rfl (pi_range1 (by rfl) T.z_range (pa_cons (pv 2) pa_nil)) (pg_name (i := 3) sc_Lsome.nd rfl (by first | exact Or.inl rfl | exact Or.inr rfl))
        (pss_one (ps_expr (pe_bm PySem.F.plainAttrs_list PySem.F.slot_list_append PySem.F.type_list_append mt_append (pv 5) (pa_cons (pe_bm PySem.F.plainAttrs_list PySem.F.slot_list_pop PySem.F.type_list_pop mt_popAt (pv 4) (pa_cons (pe_cl F_Ltake hr (by rfl) pass0 (pa_cons (pv 0) (pa_cons (pe_callB k_lnQ (by rfl) T.z_len (by decide +kernel) (pa_cons (pv 4) pa_nil)) pa_nil))) pa_nil)) pa_nil)))))
      (pss_one (ps_ret (pv 5))))), ?_⟩
    walk_at "r"
    refine r_listL hl fun p1 hp1 => ?_
    walk_at "r"
    refine ⟨by show 0 ≤ sizeLine; decide, fun p2 hp2 => ?_⟩
    refine ⟨_, _, rfl, ?_⟩
    have P2 := (hP.new hp1 (o := .lst xs)).new hp2 (o := .lst [])
    have n1 : p1 ≠ a := hP.fresh hp1
    have n2 : p2 ≠ a := (hP.new hp1).fresh hp2
    have z2 : H p2 = none := Same.free (same_new hp1) hp2
    have n12 : p1 ≠ p2 := ne_of_none upd_same hp2
    walk_at "r"
    refine ⟨_, rfl, by omega, by omega, for_range (lo := 0) (n := m) (fun i σ H' => ∃ y rs ys, σ = [some (.ref a), some (.ref l), some (.int m), y, some (.ref p1), some (.ref p2)] ∧ But a H H' ∧ PotAt H' a (c + i) ∧ H' p1 = some (.lst rs) ∧ H' p2 = some (.lst ys) ∧ ys.length = i ∧ rs.length + i = xs.length ∧ (∀ y ∈ ys, y ∈ xs) ∧ ∀ y ∈ rs, y ∈ xs)
      ⟨_, xs, [], rfl, (But.of (same_new hp1)).mut z2, P2.mono (by omega), by rw [upd_ne n12, upd_same], upd_same, rfl, rfl, fun y hy => by simp at hy, fun y hy => hy⟩ ?_ ?_⟩
    · rintro i σ G hi ⟨y, rs, ys, rfl, b, P, f1, f2, ly, lr, hy, hr⟩
      walk_at "r"
      refine ⟨_, rfl, .inl ⟨rfl, _, SqL.of f2⟩, ?_⟩
      walk_at "r"
      refine ⟨_, rfl, .inl ⟨rfl, _, SqL.of f1⟩, ?_⟩
      walk_at "r"
      refine r_lnL (SqL.of f1) ?_
      walk_at "r"
      refine ⟨a, _, _, rfl, P, by omega, by omega, by omega, fun G2 d b2 P2 d0 d1 => ?_⟩
      obtain ⟨k, rfl⟩ := Int.eq_ofNat_of_zero_le d0
      have hk : k < rs.length := by omega
      walk_at "r"
      have f1' := b2 _ _ n1 f1
      have f2' := b2 _ _ n2 f2
      refine ⟨p1, rs, (k : Int), k, rs[k], rfl, rfl, f1', by omega, by omega, ?_, List.getElem?_eq_getElem hk, ?_⟩
      · have z := PySem.seqIndex_of (k := (k : Int)) (n := rs.length) (by omega) (by omega)
        simpa using z
      walk_at "r"
      refine ⟨p2, ys, rs[k], rfl, rfl, by rw [upd_ne n12.symm]; exact f2', lt_line (by omega), ?_⟩
      walk_at "r"
      refine ⟨_, rs.eraseIdx k, ys ++ [rs[k]], rfl, ?_, ?_, by rw [upd_ne n12, upd_same], upd_same, by simp [ly], ?_, ?_, ?_⟩
      · exact (((b.trans b2).mut hp1).mut z2)
      · exact ((P2.ne n1).ne n2).mono (by omega)
      · rw [List.length_eraseIdx, if_pos hk]; omega
      · intro z hz
        rcases List.mem_append.mp hz with hz | hz
        · exact hy z hz
        · rw [List.mem_singleton.mp hz]; exact hr _ (List.getElem_mem hk)
      · intro z hz
        exact hr z (List.mem_of_mem_eraseIdx hz)
    · rintro σ G ⟨y, rs, ys, rfl, b, P, f1, f2, ly, lr, hy, hr⟩
      walk_at "r"
      exact q _ _ ys b P n2 z2 f2 ly hy
def sp_Lbent (K : PySem.W.Frag) : Sp := fun vs H Q _ => ∃ (a : Addr) (l : List Nat) (c : Int), vs = [.ref a, .str (S l)] ∧ PotAt H a c ∧ c ≤ 800000 ∧ (∀ x ∈ l, x < 128 ∧ x ≠ 10) ∧ l.length ≤ 400 ∧ ∀ H' x d, But a H H' → PotAt H' a (c + 10) → Sml K a H' 2 10000 d x → Q x H'
theorem ok_Lbent (T : Txt K mg) : Ok P w K mg base CX0 (5) "_law_bent" s_Lbent ["pot", "value"] (sp_Lbent K) := by
  obtain ⟨fd, D⟩ := T.d_Lbent
  refine ⟨⟨_, fd, T.g__law_bent, D, D.bindsN (fun _ _ _ _ _ _ us hl => match us, hl with | [_, _], _ => rfl), ?_⟩⟩
  refine D.ok sc_Lbent (fun vs H Q E h => ?_) (fun cdv A outer s H vs Q E hr h => ?_)
  · obtain ⟨a, l, c, rfl, hP, hc, hl, hz, q⟩ := h
    rfl
  · obtain ⟨a, l, c, rfl, hP, hc, hl, hz, q⟩ := h
    have F_Lodd := ok_Lodd (P := P) (w := w) (K := K) (mg := mg) (base := base) T
    have F_Ltake := ok_Ltake (P := P) (w := w) (K := K) (mg := mg) (base := base) T
    have F_Lof := ok_Lof (P := P) (w := w) (K := K) (mg := mg) (base := base) T
    have F_Lsome := ok_Lsome (P := P) (w := w) (K := K) (mg := mg) (base := base) T
    refine ⟨_, PSs.nox (pss_cons (ps_if (PW.pt (pw_and (pt_val (pe_callB call_isi (by rfl) T.z_isinstance (by decide +kernel) (pa_cons (pv 1) (pa_cons (pe_bltn (v := .ty "tuple") (by rfl) T.z_tuple (by decide +kernel) rfl) pa_nil)))) (pw_and (pt_cmpR (op_neD hr.units) (pv 1) (pe_tup pa_nil) (nomark _)) (pw_and1 (pt_cmpR op_gt (pe_cl F_Ltake hr (by rfl) pass0 (pa_cons (pv 0) (pa_cons pe_int pa_nil))) pe_int (nomark _))))))
        (pss_cons ps_never
      (pss_one ps_never))
        pss_nil)
      (pss_cons (ps_if (pt_val (pe_callB call_isi (by rfl) T.z_isinstance (by decide +kernel) (pa_cons (pv 1) (pa_cons (pe_bltn (v := .ty "tuple") (by rfl) T.z_tuple (by decide +kernel) rfl) pa_nil))))
        (pss_cons ps_never
      (pss_one ps_never))
        pss_nil)
      (pss_cons (ps_if (pt_val (pe_callB call_isi (by rfl) T.z_isinstance (by decide +kernel) (pa_cons (pv 1) (pa_cons (pe_bltn (v := .ty "bool") (by rfl) T.z_bool (by decide +kernel) rfl) pa_nil))))
        (pss_one ps_never)
        pss_nil)
      (pss_cons (ps_if (pt_val (pe_callB call_isi (by rfl) T.z_isinstance (by decide +kernel) (pa_cons (pv 1) (pa_cons (pe_bltn (v := .ty "int") (by rfl) T.z_int (by decide +kernel) rfl) pa_nil))))
        (pss_one ps_never)
        pss_nil)
      (pss_cons (ps_if (PW.pt (pw_and (pt_val (pe_callB call_isi (by rfl) T.z_isinstance (by decide +kernel) (pa_cons (pv 1) (pa_cons (pe_bltn (v := .ty "str") (by rfl) T.z_str (by decide +kernel) rfl) pa_nil)))) (pw_and1 (pt_cmpR o_inC (pe_strS [10] (by rfl)) (pv 1) (by rfl)))))
        (pss_one ps_never)
        pss_nil)
      (pss_cons (ps_if (PW.pt (pw_and (pt_val (pe_callB call_isi (by rfl) T.z_isinstance (by decide +kernel) (pa_cons (pv 1) (pa_cons (pe_bltn (v := .ty "str") (by rfl) T.z_str (by decide +kernel) rfl) pa_nil)))) (pw_and1 (pt_cmpR op_ne (pv 1) (pe_strS [] (by rfl)) (nomark _)))))
        (pss_cons (ps_set (i := 2) sc_Lbent.nd rfl (by first | exact Or.inl rfl | exact Or.inr rfl) (pe_cl F_Ltake hr (by rfl) pass0 (pa_cons (pv 0) (pa_cons (pe_callB k_lnS (by rfl) T.z_len (by decide +kernel) (pa_cons (pv 1) pa_nil)) pa_nil))))
      (pss_cons (ps_setLc (i := 3) (own := [("sign", 4)]) (g := gName 4) (tt := tYes) rfl sc_Lbent.nd rfl rfl (sw_true rfl rfl rfl rfl) (pi_list (pe_cl F_Lsome hr (by rfl) pass0 (pa_cons (pv 0) (pa_cons (pe_callTy (call_list_txt rfl) (by rfl) T.z_list (by decide +kernel) (pa_cons (pe_strS [110, 102, 115, 97, 120, 48, 49, 32, 59] (by rfl)) pa_nil)) (pa_cons pe_int pa_nil))))) (blkOk_by (N := ["pot", "value", "at", "some", "sign"]) (sc := defScope s_Lbent) (by decide +kernel)) (fun _ _ _ _ _ => (pg_name (i := 4) sc_Lbent.nd rfl (by first | exact Or.inl rfl | exact Or.inr rfl))) (fun _ _ _ _ _ => pts_nil) (fun _ _ _ _ _ => (pe_op o_addS (pe_op o_addS (pe_slice sl_str (pv 1) po_none (po_some (pv 2))) (pv 4)) (pe_slice sl_str (pv 1) (po_some (pe_op op_add (pv 2) pe_int)) po_none))))
      (pss_one (ps_ret (pe_cl F_Lof hr (by rfl) pass0 (pa_cons (pv 0) (pa_cons (pe_op op_cat (pv 3) (pe_lst (pa_cons (pe_op o_addS (pv 1) (pe_strS [97] (by rfl))) (pa_cons (pe_slice sl_str (pv 1) (po_some pe_int) po_none) (pa_cons (pe_bm0 PySem.F.plainAttrs_str PySem.F.slot_str_upper PySem.F.type_str_upper mt_upS (pv 1)) (pa_cons (pe_lst (pa_cons (pv 1) pa_nil)) (pa_cons pe_non (pa_cons (pe_tup (pa_cons (pv 1) pa_nil)) pa_nil)))))))) pa_nil)))))))
        pss_nil)
      (pss_one (ps_ret (pe_cl F_Lodd hr (by rfl) pass0 (pa_cons (pv 0) pa_nil)))))))))), ?_⟩
    walk_at "r"
    rw [decide_eq_false (show ¬ (10 : Nat) ∈ l from fun z => (hl 10 z).2 rfl)]
    walk_at "r"
    refine r_ndec (fun e0 => ?_) (fun e0 => ?_)
    · walk_at "r"
      refine r_lnT (l := l) (by omega) ?_
      have l0 : 0 < l.length := Nat.pos_of_ne_zero fun z => e0 (by rw [List.eq_nil_of_length_eq_zero z])
      refine ⟨a, _, _, rfl, hP, by omega, by omega, by omega, fun H1 d b1 P1 d0 d1 => ?_⟩
      obtain ⟨k, rfl⟩ := Int.eq_ofNat_of_zero_le d0
      walk_at "r"
      refine r_listS (l := [110, 102, 115, 97, 120, 48, 49, 32, 59]) (by decide) fun p1 hp1 => ?_
      walk_at "r"
      refine ⟨a, p1, _, 4, _, rfl, P1.new hp1, by omega, SqL.of upd_same, P1.fresh hp1, by decide, by decide, fun H2 p2 ys b2 P2 n2 z2 f2 ly hy => ?_⟩
      refine ⟨p2, rfl, ⟨_, SqL.of f2⟩, fun D hD => ?_⟩
      have b02 := (b1.trans (But.of (same_new hp1))).trans b2
      have np2 : p2 ≠ D := ne_of_none f2 hD
      refine lc_acc (n := 4) (fun i G' => Same H2 G') (fun _ v => ∃ l' : List Nat, v = .str (S l') ∧ (∀ c ∈ l', c < 128) ∧ l'.length ≤ 401) (by omega) (same_new hD) (fun i G' acc acc' e h3 => Same.mut e hD) (fun i G' hi e => ?_) (fun G' e => ?_) ?_ ?_
      · exact ⟨_, _, SqL.of (e _ _ f2), List.getElem?_eq_getElem (by rw [ly]; exact hi)⟩
      · exact ⟨_, SqL.of (e _ _ f2), by rw [ly]; exact Nat.le_refl _⟩
      · rintro i v G' G2 acc hi e hacc ⟨rfl, f⟩ R hR
        have ev := hy _ (List.mem_of_getElem? (f _ (SqL.of (e _ _ f2))))
        obtain ⟨s, hs, rfl⟩ := List.mem_map.mp ev
        have hs' : s < 128 := by
          have : ∀ s ∈ ([110, 102, 115, 97, 120, 48, 49, 32, 59] : List Nat), s < 128 := by decide
          exact this s hs
        walk_at "r"
        refine ⟨rfl, ?_⟩
        walk_at "r"
        refine r_slS (by omega) ?_
        rw [cut_take]
        walk_at "r"
        refine r_addS (by rw [List.length_take, List.length_singleton]; omega) ?_
        walk_at "r"
        rw [show (k : Int) + 1 = ((k + 1 : Nat) : Int) by omega]
        refine r_slS (by omega) ?_
        rw [cut_from (by omega)]
        refine r_addS (by rw [List.length_append, List.length_take, List.length_singleton, List.length_drop]; omega) ?_
        refine hR _ _ hacc ⟨_, rfl, fun c hc => ?_, by rw [List.length_append, List.length_append, List.length_take, List.length_singleton, List.length_drop]; omega⟩ e
        rcases List.mem_append.mp hc with hc | hc
        · rcases List.mem_append.mp hc with hc | hc
          · exact (hl c (List.mem_of_mem_take hc)).1
          · rw [List.mem_singleton.mp hc]; exact hs'
        · exact (hl c (List.mem_of_mem_drop hc)).1
      · rintro G' acc la hv hacc e
        have P3 := P2.same e
        walk_at "r"
        refine r_addS (by rw [List.length_singleton]; omega) ?_
        walk_at "r"
        refine r_slS (by omega) ?_
        rw [show (1 : Int) = ((1 : Nat) : Int) from rfl, cut_from (by omega)]
        walk_at "r"
        have l128 : l.all (· < 128) = true := List.all_eq_true.mpr fun c hc => decide_eq_true (hl c hc).1
        refine ⟨_, rfl, rfl, r_upS (by omega) l128 ?_⟩
        walk_at "r"
        refine ⟨by show 1 ≤ sizeLine; decide, fun p3 hp3 => ?_⟩
        have f3 : (upd G' p3 (.lst [.str (S l)])) p3 = some (.lst [.str (S l)]) := upd_same
        have s3 := same_new hp3 (o := .lst [.str (S l)])
        have n3 := P3.fresh hp3
        have P4 := P3.same s3
        have hacc3 := s3 _ _ hacc
        generalize upd G' p3 (.lst [.str (S l)]) = G3 at *
        walk_at "r"
        refine ⟨by show 1 ≤ sizeLine; decide, fun p4 hp4 => ?_⟩
        have f4 : (upd G3 p4 (.tup [.str (S l)])) p4 = some (.tup [.str (S l)]) := upd_same
        have s4 := same_new hp4 (o := .tup [.str (S l)])
        have n4 := P4.fresh hp4
        have P5 := P4.same s4
        have hacc4 := s4 _ _ hacc3
        have f34 := s4 _ _ f3
        generalize upd G3 p4 (.tup [.str (S l)]) = G4 at *
        walk_at "r"
        refine ⟨by show 6 ≤ sizeLine; decide, fun p5 hp5 => ?_⟩
        have s5 := same_new hp5 (o := .lst [.str (S (l ++ [97])), .str (S (l.drop 1)), .str (S (l.map PyProof.Rows.up1)), .ref p3, .non, .ref p4])
        have f5 : (upd G4 p5 (.lst [.str (S (l ++ [97])), .str (S (l.drop 1)), .str (S (l.map PyProof.Rows.up1)), .ref p3, .non, .ref p4])) p5 = some (.lst [.str (S (l ++ [97])), .str (S (l.drop 1)), .str (S (l.map PyProof.Rows.up1)), .ref p3, .non, .ref p4]) := upd_same
        have P6 := P5.same s5
        have hacc5 := s5 _ _ hacc4
        have f35 := s5 _ _ f34
        have f45 := s5 _ _ f4
        generalize upd G4 p5 (.lst [.str (S (l ++ [97])), .str (S (l.drop 1)), .str (S (l.map PyProof.Rows.up1)), .ref p3, .non, .ref p4]) = G5 at *
        refine r_catL hacc5 f5 (by rw [la]; show 4 + 6 ≤ 1000000; decide) fun p6 hp6 => ?_
        have s6 := same_new hp6 (o := .lst (acc ++ [.str (S (l ++ [97])), .str (S (l.drop 1)), .str (S (l.map PyProof.Rows.up1)), .ref p3, .non, .ref p4]))
        have n6 := P6.fresh hp6
        walk_at "r"
        refine ⟨a, p6, _, _, rfl, P6.same s6, by omega, SqL.of upd_same, n6, by rw [List.length_append, la]; omega, by rw [List.length_append, la]; show 4 + 6 ≤ 1000000; decide, fun H9 x b9 P9 hx => ?_⟩
        have bb := b02.trans ((But.of ((((e.trans s3).trans s4).trans s5).trans s6)).trans b9)
        have g3 := b9 _ _ n3 (s6 _ _ f35)
        have g4 := b9 _ _ n4 (s6 _ _ f45)
        have P9' := P9.mono (d := c + 10) (by omega)
        have ok : ∀ l' : List Nat, (∀ c ∈ l', c < 128) → l'.length ≤ 401 → Sml K a H9 2 10000 (.str (S l')) (.str (S l')) := fun l' h1 h2 =>
          ⟨dat_S fun c hc => Nat.lt_trans (h1 c hc) (by decide), by simp only [cap, S_len]; omega, by simp [PyData.depth], fun _ => rfl⟩
        have lw : ∀ c ∈ l, c < 128 := fun c hc => (hl c hc).1
        rcases List.mem_append.mp hx with hx | hx
        · obtain ⟨i, hi, rfl⟩ := List.getElem_of_mem hx
          obtain ⟨l', e1, e2, e3⟩ := hv i _ (List.getElem?_eq_getElem hi)
          rw [e1]
          exact q _ _ _ bb P9' (ok l' e2 e3)
        · simp only [List.mem_cons, List.not_mem_nil, or_false] at hx
          rcases hx with rfl | rfl | rfl | rfl | rfl | rfl
          · exact q _ _ _ bb P9' (ok _ (fun c hc => (List.mem_append.mp hc).elim (lw c) fun h => by rw [List.mem_singleton.mp h]; decide) (by rw [List.length_append, List.length_singleton]; omega))
          · exact q _ _ _ bb P9' (ok _ (fun c hc => lw c (List.mem_of_mem_drop hc)) (by rw [List.length_drop]; omega))
          · refine q _ _ _ bb P9' (ok _ (fun c hc => ?_) (by rw [List.length_map]; omega))
            obtain ⟨z, hz, rfl⟩ := List.mem_map.mp hc
            have := lw z hz
            unfold PyProof.Rows.up1
            split <;> omega
          · exact q _ _ (.list [.str (S l)]) bb P9' ⟨dat_lst n3 (SqL.of g3) (datL_cons (dat_S fun c hc => Nat.lt_trans (lw c hc) (by decide)) datL_nil), by simp only [cap, capL, S_len]; omega, by simp [PyData.depth, PyData.depthAll], fun z => by simp [PyData.hasDict, PyData.hasDictAll] at z⟩
          · exact q _ _ .none bb P9' ⟨dat_non, by decide, by decide, fun _ => rfl⟩
          · exact q _ _ (.tuple [.str (S l)]) bb P9' ⟨dat_tup (SqT.of g4) (datL_cons (dat_S fun c hc => Nat.lt_trans (lw c hc) (by decide)) datL_nil), by simp only [cap, capL, S_len]; omega, by simp [PyData.depth, PyData.depthAll], fun z => by simp [PyData.hasDict, PyData.hasDictAll] at z⟩
    · walk_at "r"
      refine ⟨a, c, rfl, hP, by omega, fun H' x d b P hx => q H' x d b (P.mono (by omega)) hx⟩

def sp_LbentI (K : PySem.W.Frag) : Sp := fun vs H Q _ => ∃ (a : Addr) (i : Int) (c : Int), vs = [.ref a, .int i] ∧ PotAt H a c ∧ c ≤ 800000 ∧ i.natAbs < 2 ^ 1000 ∧ ∀ H' x d, But a H H' → PotAt H' a (c + 10) → Sml K a H' 2 10000 d x → Q x H'
theorem ok_LbentI (T : Txt K mg) : Ok P w K mg base CX0 (5) "_law_bent" s_Lbent ["pot", "value"] (sp_LbentI K) := by
  obtain ⟨fd, D⟩ := T.d_Lbent
  refine ⟨⟨_, fd, T.g__law_bent, D, D.bindsN (fun _ _ _ _ _ _ us hl => match us, hl with | [_, _], _ => rfl), ?_⟩⟩
  refine D.ok sc_Lbent (fun vs H Q E h => ?_) (fun cdv A outer s H vs Q E hr h => ?_)
  · obtain ⟨a, i, c, rfl, hP, hc, hi, q⟩ := h
    rfl
  · obtain ⟨a, i, c, rfl, hP, hc, hi, q⟩ := h
    have F_Ltake := ok_Ltake (P := P) (w := w) (K := K) (mg := mg) (base := base) T
    have F_Lof := ok_Lof (P := P) (w := w) (K := K) (mg := mg) (base := base) T
    refine ⟨_, PSs.nox (pss_cons (ps_if (PW.pt (pw_and (pt_val (pe_callB call_isi (by rfl) T.z_isinstance (by decide +kernel) (pa_cons (pv 1) (pa_cons (pe_bltn (v := .ty "tuple") (by rfl) T.z_tuple (by decide +kernel) rfl) pa_nil)))) (pw_and (pt_cmpR (op_neD hr.units) (pv 1) (pe_tup pa_nil) (nomark _)) (pw_and1 (pt_cmpR op_gt (pe_cl F_Ltake hr (by rfl) pass0 (pa_cons (pv 0) (pa_cons pe_int pa_nil))) pe_int (nomark _))))))
        (pss_cons ps_never
      (pss_one ps_never))
        pss_nil)
      (pss_cons (ps_if (pt_val (pe_callB call_isi (by rfl) T.z_isinstance (by decide +kernel) (pa_cons (pv 1) (pa_cons (pe_bltn (v := .ty "tuple") (by rfl) T.z_tuple (by decide +kernel) rfl) pa_nil))))
        (pss_cons ps_never
      (pss_one ps_never))
        pss_nil)
      (pss_cons (ps_if (pt_val (pe_callB call_isi (by rfl) T.z_isinstance (by decide +kernel) (pa_cons (pv 1) (pa_cons (pe_bltn (v := .ty "bool") (by rfl) T.z_bool (by decide +kernel) rfl) pa_nil))))
        (pss_one ps_never)
        pss_nil)
      (pss_cons (ps_if (pt_val (pe_callB call_isi (by rfl) T.z_isinstance (by decide +kernel) (pa_cons (pv 1) (pa_cons (pe_bltn (v := .ty "int") (by rfl) T.z_int (by decide +kernel) rfl) pa_nil))))
        (pss_one (ps_ret (pe_cl F_Lof hr (by rfl) pass0 (pa_cons (pv 0) (pa_cons (pe_lst (pa_cons (pe_op op_add (pv 1) pe_int) (pa_cons (pe_op op_sub (pv 1) pe_int) (pa_cons (pe_cmpR op_eq (pv 1) pe_int (nomark _)) (pa_cons (pe_un un_neg (pv 1)) (pa_cons (pe_callTy call_str_int (by rfl) T.z_str (by decide +kernel) (pa_cons (pe_op op_mod (pe_callTy k_int (by rfl) T.z_int (by decide +kernel) (pa_cons (pv 1) pa_nil)) (pe_op op_powW pe_int pe_int)) pa_nil)) (pa_cons pe_non (pa_cons (pe_tup (pa_cons (pv 1) pa_nil)) pa_nil)))))))) pa_nil)))))
        pss_nil)
      (pss_cons (ps_if (PW.pt (pw_and (pt_val (pe_callB call_isi (by rfl) T.z_isinstance (by decide +kernel) (pa_cons (pv 1) (pa_cons (pe_bltn (v := .ty "str") (by rfl) T.z_str (by decide +kernel) rfl) pa_nil)))) (pw_and1 (pt_cmpR op_in_seq (pe_strS [10] (by rfl)) (pv 1) (by rfl)))))
        (pss_one ps_never)
        pss_nil)
      (pss_cons (ps_if (PW.pt (pw_and (pt_val (pe_callB call_isi (by rfl) T.z_isinstance (by decide +kernel) (pa_cons (pv 1) (pa_cons (pe_bltn (v := .ty "str") (by rfl) T.z_str (by decide +kernel) rfl) pa_nil)))) (pw_and1 (pt_cmpR op_ne (pv 1) (pe_strS [] (by rfl)) (nomark _)))))
        (pss_cons ps_never
      (pss_cons ps_never
      (pss_one ps_never)))
        pss_nil)
      (pss_one ps_never))))))), ?_⟩
    walk_at "r"
    refine r_I (cpw (by decide) (by decide) (by decide) (by decide)) ?_
    walk_at "r"
    refine r_I (by show (0 : Int) < 10 ^ (6 : Int).toNat; decide) ?_
    have m0 := Int.emod_nonneg i (show ((10 : Int) ^ (6 : Int).toNat) ≠ 0 by decide)
    have m1 := Int.emod_lt_of_pos i (show (0 : Int) < 10 ^ (6 : Int).toNat by decide)
    rw [show ((10 : Int) ^ (6 : Int).toNat) = 1000000 from by decide] at m0 m1 ⊢
    generalize i % 1000000 = m at m0 m1 ⊢
    refine ⟨m, rfl, Nat.lt_trans (log2_le (k := 20) (by omega) (by decide)) (by decide), ?_⟩
    walk_at "r"
    refine ⟨by show 1 ≤ sizeLine; decide, fun p hp => ?_⟩
    have s1 := same_new hp (o := .tup [.int i])
    have D1 : Dat K a (upd H p (.tup [.int i])) (.tuple [.int i]) (.ref p) := dat_tup (SqT.of upd_same) (datL_cons (dat_int (big_log hi)) datL_nil)
    have P1 := hP.same s1
    generalize upd H p (.tup [.int i]) = H1 at s1 D1 P1 ⊢
    walk_at "r"
    refine ⟨by show 7 ≤ sizeLine; decide, fun p2 hp2 => ?_⟩
    have s2 := same_new hp2 (o := .lst [.int (i + 1), .int (i - 1), .bl (decide (V.int i = V.int 1)), .int (-i), .str (Str.ofString (toString m)), .non, .ref p])
    replace D1 := dat_same s2 D1
    have P2 := P1.same s2
    have n2 := P1.fresh hp2
    walk_at "r"
    refine ⟨a, p2, _, _, rfl, P2, by omega, SqL.of upd_same, n2, by simp, by simp, fun H9 x b9 P9 hx => ?_⟩
    have bb : But a H H9 := (But.of (s1.trans s2)).trans b9
    replace D1 := dat_but b9 P2 D1
    have PP : PotAt H9 a (c + 10) := P9.mono (by omega)
    have ok : ∀ k : Int, k.natAbs ≤ i.natAbs + 1 → Sml K a H9 2 10000 (.int k) (.int k) := fun k hk => ⟨dat_int (big_log1 hi hk), by simp only [cap]; omega, by simp only [PyData.depth]; omega, fun z => by simp [PyData.hasDict] at z⟩
    simp only [List.mem_cons, List.not_mem_nil, or_false] at hx
    rcases hx with rfl | rfl | rfl | rfl | rfl | rfl | rfl
    · exact q _ _ _ bb PP (ok _ (by omega))
    · exact q _ _ _ bb PP (ok _ (by omega))
    · exact q _ _ (.bool _) bb PP ⟨dat_bl, by simp only [cap]; omega, by simp only [PyData.depth]; omega, fun z => by simp [PyData.hasDict] at z⟩
    · exact q _ _ _ bb PP (ok _ (by omega))
    · exact q _ _ _ bb PP ⟨dat_txt _, by have := small_txt m0 m1; omega, by simp only [PyData.depth]; omega, fun z => by simp [PyData.hasDict] at z⟩
    · exact q _ _ .none bb PP ⟨dat_non, by simp only [cap]; omega, by simp only [PyData.depth]; omega, fun z => by simp [PyData.hasDict] at z⟩
    · exact q _ _ _ bb PP ⟨D1, by simp only [cap, capL]; omega, by simp only [PyData.depth, PyData.depthAll]; omega, fun z => by simp [PyData.hasDict, PyData.hasDictAll] at z⟩
def sp_LbentB (K : PySem.W.Frag) : Sp := fun vs H Q _ => ∃ (a : Addr) (b : Bool) (c : Int), vs = [.ref a, .bl b] ∧ PotAt H a c ∧ c ≤ 800000 ∧ ∀ H' x d, But a H H' → PotAt H' a (c + 10) → Sml K a H' 2 10000 d x → Q x H'
theorem ok_LbentB (T : Txt K mg) : Ok P w K mg base CX0 (5) "_law_bent" s_Lbent ["pot", "value"] (sp_LbentB K) := by
  obtain ⟨fd, D⟩ := T.d_Lbent
  refine ⟨⟨_, fd, T.g__law_bent, D, D.bindsN (fun _ _ _ _ _ _ us hl => match us, hl with | [_, _], _ => rfl), ?_⟩⟩
  refine D.ok sc_Lbent (fun vs H Q E h => ?_) (fun cdv A outer s H vs Q E hr h => ?_)
  · obtain ⟨a, b, c, rfl, hP, hc, q⟩ := h
    rfl
  · obtain ⟨a, b, c, rfl, hP, hc, q⟩ := h
    have F_Ltake := ok_Ltake (P := P) (w := w) (K := K) (mg := mg) (base := base) T
    have F_Lof := ok_Lof (P := P) (w := w) (K := K) (mg := mg) (base := base) T
    refine ⟨_, PSs.nox (pss_cons (ps_if (PW.pt (pw_and (pt_val (pe_callB call_isi (by rfl) T.z_isinstance (by decide +kernel) (pa_cons (pv 1) (pa_cons (pe_bltn (v := .ty "tuple") (by rfl) T.z_tuple (by decide +kernel) rfl) pa_nil)))) (pw_and (pt_cmpR (op_neD hr.units) (pv 1) (pe_tup pa_nil) (nomark _)) (pw_and1 (pt_cmpR op_gt (pe_cl F_Ltake hr (by rfl) pass0 (pa_cons (pv 0) (pa_cons pe_int pa_nil))) pe_int (nomark _))))))
        (pss_cons ps_never
      (pss_one ps_never))
        pss_nil)
      (pss_cons (ps_if (pt_val (pe_callB call_isi (by rfl) T.z_isinstance (by decide +kernel) (pa_cons (pv 1) (pa_cons (pe_bltn (v := .ty "tuple") (by rfl) T.z_tuple (by decide +kernel) rfl) pa_nil))))
        (pss_cons ps_never
      (pss_one ps_never))
        pss_nil)
      (pss_cons (ps_if (pt_val (pe_callB call_isi (by rfl) T.z_isinstance (by decide +kernel) (pa_cons (pv 1) (pa_cons (pe_bltn (v := .ty "bool") (by rfl) T.z_bool (by decide +kernel) rfl) pa_nil))))
        (pss_one (ps_ret (pe_cl F_Lof hr (by rfl) pass0 (pa_cons (pv 0) (pa_cons (pe_lst (pa_cons (pe_not (pv 1)) (pa_cons (pe_callTy k_int (by rfl) T.z_int (by decide +kernel) (pa_cons (pv 1) pa_nil)) (pa_cons pe_non pa_nil)))) pa_nil)))))
        pss_nil)
      (pss_cons (ps_if (pt_val (pe_callB call_isi (by rfl) T.z_isinstance (by decide +kernel) (pa_cons (pv 1) (pa_cons (pe_bltn (v := .ty "int") (by rfl) T.z_int (by decide +kernel) rfl) pa_nil))))
        (pss_one ps_never)
        pss_nil)
      (pss_cons (ps_if (PW.pt (pw_and (pt_val (pe_callB call_isi (by rfl) T.z_isinstance (by decide +kernel) (pa_cons (pv 1) (pa_cons (pe_bltn (v := .ty "str") (by rfl) T.z_str (by decide +kernel) rfl) pa_nil)))) (pw_and1 (pt_cmpR op_in_seq (pe_strS [10] (by rfl)) (pv 1) (by rfl)))))
        (pss_one ps_never)
        pss_nil)
      (pss_cons (ps_if (PW.pt (pw_and (pt_val (pe_callB call_isi (by rfl) T.z_isinstance (by decide +kernel) (pa_cons (pv 1) (pa_cons (pe_bltn (v := .ty "str") (by rfl) T.z_str (by decide +kernel) rfl) pa_nil)))) (pw_and1 (pt_cmpR op_ne (pv 1) (pe_strS [] (by rfl)) (nomark _)))))
        (pss_cons ps_never
      (pss_cons ps_never
      (pss_one ps_never)))
        pss_nil)
      (pss_one ps_never))))))), ?_⟩
    walk_at "r"
    refine ⟨by show 3 ≤ sizeLine; decide, fun p2 hp2 => ?_⟩
    have s2 := same_new hp2 (o := .lst [.bl (!b), .int (if b then 1 else 0), .non])
    have P2 := hP.same s2
    have n2 := hP.fresh hp2
    walk_at "r"
    refine ⟨a, p2, _, _, rfl, P2, by omega, SqL.of upd_same, n2, by simp, by simp, fun H9 x b9 P9 hx => ?_⟩
    have bb : But a H H9 := (But.of s2).trans b9
    have PP : PotAt H9 a (c + 10) := P9.mono (by omega)
    simp only [List.mem_cons, List.not_mem_nil, or_false] at hx
    rcases hx with rfl | rfl | rfl
    · exact q _ _ (.bool _) bb PP ⟨dat_bl, by simp only [cap]; omega, by simp only [PyData.depth]; omega, fun z => by simp [PyData.hasDict] at z⟩
    · exact q _ _ (.int _) bb PP ⟨dat_int (by cases b <;> decide), by simp only [cap]; omega, by simp only [PyData.depth]; omega, fun z => by simp [PyData.hasDict] at z⟩
    · exact q _ _ .none bb PP ⟨dat_non, by simp only [cap]; omega, by simp only [PyData.depth]; omega, fun z => by simp [PyData.hasDict] at z⟩
def sp_LbentE (K : PySem.W.Frag) : Sp := fun vs H Q _ => ∃ (a : Addr) (c : Int), vs = [.ref a, .non] ∧ PotAt H a c ∧ c ≤ 800000 ∧ ∀ H' x d, But a H H' → PotAt H' a (c + 10) → Sml K a H' 2 10000 d x → Q x H'
theorem ok_LbentE (T : Txt K mg) : Ok P w K mg base CX0 (5) "_law_bent" s_Lbent ["pot", "value"] (sp_LbentE K) := by
  obtain ⟨fd, D⟩ := T.d_Lbent
  refine ⟨⟨_, fd, T.g__law_bent, D, D.bindsN (fun _ _ _ _ _ _ us hl => match us, hl with | [_, _], _ => rfl), ?_⟩⟩
  refine D.ok sc_Lbent (fun vs H Q E h => ?_) (fun cdv A outer s H vs Q E hr h => ?_)
  · obtain ⟨a, c, rfl, hP, hc, q⟩ := h
    rfl
  · obtain ⟨a, c, rfl, hP, hc, q⟩ := h
    have F_Lodd := ok_Lodd (P := P) (w := w) (K := K) (mg := mg) (base := base) T
    have F_Ltake := ok_Ltake (P := P) (w := w) (K := K) (mg := mg) (base := base) T
    refine ⟨_, PSs.nox (pss_cons (ps_if (PW.pt (pw_and (pt_val (pe_callB call_isi (by rfl) T.z_isinstance (by decide +kernel) (pa_cons (pv 1) (pa_cons (pe_bltn (v := .ty "tuple") (by rfl) T.z_tuple (by decide +kernel) rfl) pa_nil)))) (pw_and (pt_cmpR (op_neD hr.units) (pv 1) (pe_tup pa_nil) (nomark _)) (pw_and1 (pt_cmpR op_gt (pe_cl F_Ltake hr (by rfl) pass0 (pa_cons (pv 0) (pa_cons pe_int pa_nil))) pe_int (nomark _))))))
        (pss_cons ps_never
      (pss_one ps_never))
        pss_nil)
      (pss_cons (ps_if (pt_val (pe_callB call_isi (by rfl) T.z_isinstance (by decide +kernel) (pa_cons (pv 1) (pa_cons (pe_bltn (v := .ty "tuple") (by rfl) T.z_tuple (by decide +kernel) rfl) pa_nil))))
        (pss_cons ps_never
      (pss_one ps_never))
        pss_nil)
      (pss_cons (ps_if (pt_val (pe_callB call_isi (by rfl) T.z_isinstance (by decide +kernel) (pa_cons (pv 1) (pa_cons (pe_bltn (v := .ty "bool") (by rfl) T.z_bool (by decide +kernel) rfl) pa_nil))))
        (pss_one ps_never)
        pss_nil)
      (pss_cons (ps_if (pt_val (pe_callB call_isi (by rfl) T.z_isinstance (by decide +kernel) (pa_cons (pv 1) (pa_cons (pe_bltn (v := .ty "int") (by rfl) T.z_int (by decide +kernel) rfl) pa_nil))))
        (pss_one ps_never)
        pss_nil)
      (pss_cons (ps_if (PW.pt (pw_and (pt_val (pe_callB call_isi (by rfl) T.z_isinstance (by decide +kernel) (pa_cons (pv 1) (pa_cons (pe_bltn (v := .ty "str") (by rfl) T.z_str (by decide +kernel) rfl) pa_nil)))) (pw_and1 (pt_cmpR op_in_seq (pe_strS [10] (by rfl)) (pv 1) (by rfl)))))
        (pss_one ps_never)
        pss_nil)
      (pss_cons (ps_if (PW.pt (pw_and (pt_val (pe_callB call_isi (by rfl) T.z_isinstance (by decide +kernel) (pa_cons (pv 1) (pa_cons (pe_bltn (v := .ty "str") (by rfl) T.z_str (by decide +kernel) rfl) pa_nil)))) (pw_and1 (pt_cmpR op_ne (pv 1) (pe_strS [] (by rfl)) (nomark _)))))
        (pss_cons ps_never
      (pss_cons ps_never
      (pss_one ps_never)))
        pss_nil)
      (pss_one (ps_ret (pe_cl F_Lodd hr (by rfl) pass0 (pa_cons (pv 0) pa_nil)))))))))), ?_⟩
    walk_at "r"
    refine ⟨a, c, rfl, hP, by omega, fun H' x d b P hx => q H' x d b (P.mono (by omega)) hx⟩
/-- data bent: texts and tuples, nested at most n deep -/
def sp_LbentN (n : Nat) (K : PySem.W.Frag) : Sp := fun vs H Q _ => ∃ (a : Addr) (x : V) (d : PyData) (c : Int), vs = [.ref a, x] ∧ PotAt H a c ∧ c + 100 * n ≤ 700000 ∧ n ≤ 20 ∧ Dat K a H d x ∧ bt d = true ∧ d.depth ≤ n ∧ cap d ≤ 200000 ∧
  ∀ H' x' d', But a H H' → PotAt H' a (c + 10 * n + 20) → Sml K a H' (n + 2) (2 * cap d + 12000) d' x' → Q x' H'
def sp_LbentT (n : Nat) (K : PySem.W.Frag) : Sp := fun vs H Q _ => ∃ (a : Addr) (x : V) (ds : List PyData) (c : Int), vs = [.ref a, x] ∧ PotAt H a c ∧ c + 100 * n + 100 ≤ 700000 ∧ n ≤ 19 ∧ Dat K a H (.tuple ds) x ∧ btL ds = true ∧ PyData.depthAll ds ≤ n ∧ capL ds ≤ 199997 ∧
  ∀ H' x' d', But a H H' → PotAt H' a (c + 10 * n + 30) → Sml K a H' (n + 3) (2 * capL ds + 12003) d' x' → Q x' H'
theorem ok_LbentT {n m : Nat} (F_Lbent : Ok P w K mg base CX0 (m + 9) "_law_bent" s_Lbent ["pot", "value"] (sp_LbentN n K)) (T : Txt K mg) : Ok P w K mg base CX0 (m + 10) "_law_bent" s_Lbent ["pot", "value"] (sp_LbentT n K) := by
  obtain ⟨fd, D⟩ := T.d_Lbent
  refine ⟨⟨_, fd, T.g__law_bent, D, D.bindsN (fun _ _ _ _ _ _ us hl => match us, hl with | [_, _], _ => rfl), ?_⟩⟩
  refine D.ok sc_Lbent (fun vs H Q E h => ?_) (fun cdv A outer s H vs Q E hr h => ?_)
  · obtain ⟨a, x, ds, c, rfl, hP, hc, hn, hD, hb, hdep, hcap, q⟩ := h
    rfl
  · obtain ⟨a, x, ds, c, rfl, hP, hc, hn, hD, hb, hdep, hcap, q⟩ := h
    have F_Ltake := ok_Ltake (P := P) (w := w) (K := K) (mg := mg) (base := base) T
    have F_Lof := ok_Lof (P := P) (w := w) (K := K) (mg := mg) (base := base) T
    refine ⟨_, PSs.nox (pss_cons (ps_if (PW.pt (pw_and (pt_val (pe_callB call_isi (by rfl) T.z_isinstance (by decide +kernel) (pa_cons (pv 1) (pa_cons (pe_bltn (v := .ty "tuple") (by rfl) T.z_tuple (by decide +kernel) rfl) pa_nil)))) (pw_and (pt_cmpR (op_neD hr.units) (pv 1) (pe_tup pa_nil) (nomark _)) (pw_and1 (pt_cmpR op_gt (pe_cl F_Ltake hr (by rfl) pass0 (pa_cons (pv 0) (pa_cons pe_int pa_nil)) (hj := by omega)) pe_int (nomark _))))))
        (pss_cons (ps_set (i := 2) sc_Lbent.nd rfl (by first | exact Or.inl rfl | exact Or.inr rfl) (pe_cl F_Ltake hr (by rfl) pass0 (pa_cons (pv 0) (pa_cons (pe_callB k_lnQ (by rfl) T.z_len (by decide +kernel) (pa_cons (pv 1) pa_nil)) pa_nil)) (hj := by omega)))
      (pss_one (ps_ret (pe_op op_catA (pe_op op_catA (pe_slice sl_tupA (pv 1) po_none (po_some (pv 2))) (pe_tup (pa_cons (pe_cl F_Lbent hr (by rfl) pass0 (pa_cons (pv 0) (pa_cons (pe_ix ix_tup (pv 1) (pv 2) (fun _ _ => rfl)) pa_nil)) (hj := by omega)) pa_nil))) (pe_slice sl_tupA (pv 1) (po_some (pe_op op_add (pv 2) pe_int)) po_none)))))
        pss_nil)
      (pss_cons (ps_if (pt_val (pe_callB call_isi (by rfl) T.z_isinstance (by decide +kernel) (pa_cons (pv 1) (pa_cons (pe_bltn (v := .ty "tuple") (by rfl) T.z_tuple (by decide +kernel) rfl) pa_nil))))
        (pss_cons (ps_set (i := 3) sc_Lbent.nd rfl (by first | exact Or.inl rfl | exact Or.inr rfl) (pe_lst (pa_cons (pe_callTy k_listOf (by rfl) T.z_list (by decide +kernel) (pa_cons (pv 1) pa_nil)) (pa_cons (pe_slice sl_tupA (pv 1) (po_some pe_int) po_none) (pa_cons (pe_slice sl_tupA (pv 1) po_none (po_some (pe_un un_neg pe_int))) (pa_cons (pe_op op_catA (pv 1) (pe_slice sl_tupA (pv 1) (po_some (pe_un un_neg pe_int)) po_none)) (pa_cons (pe_revT (pv 1)) (pa_cons (pe_tup pa_nil) (pa_cons pe_non (pa_cons (pe_op op_catA (pv 1) (pe_tup (pa_cons pe_int pa_nil))) pa_nil))))))))))
      (pss_one (ps_ret (pe_cl F_Lof hr (by rfl) pass0 (pa_cons (pv 0) (pa_cons (pv 3) pa_nil)) (hj := by omega)))))
        pss_nil)
      (pss_cons (ps_if (pt_val (pe_callB call_isi (by rfl) T.z_isinstance (by decide +kernel) (pa_cons (pv 1) (pa_cons (pe_bltn (v := .ty "bool") (by rfl) T.z_bool (by decide +kernel) rfl) pa_nil))))
        (pss_one ps_never)
        pss_nil)
      (pss_cons (ps_if (pt_val (pe_callB call_isi (by rfl) T.z_isinstance (by decide +kernel) (pa_cons (pv 1) (pa_cons (pe_bltn (v := .ty "int") (by rfl) T.z_int (by decide +kernel) rfl) pa_nil))))
        (pss_one ps_never)
        pss_nil)
      (pss_cons (ps_if (PW.pt (pw_and (pt_val (pe_callB call_isi (by rfl) T.z_isinstance (by decide +kernel) (pa_cons (pv 1) (pa_cons (pe_bltn (v := .ty "str") (by rfl) T.z_str (by decide +kernel) rfl) pa_nil)))) (pw_and1 (pt_cmpR op_in_seq (pe_strS [10] (by rfl)) (pv 1) (by rfl)))))
        (pss_one ps_never)
        pss_nil)
      (pss_cons (ps_if (PW.pt (pw_and (pt_val (pe_callB call_isi (by rfl) T.z_isinstance (by decide +kernel) (pa_cons (pv 1) (pa_cons (pe_bltn (v := .ty "str") (by rfl) T.z_str (by decide +kernel) rfl) pa_nil)))) (pw_and1 (pt_cmpR (op_neD hr.units) (pv 1) (pe_strS [] (by rfl)) (nomark _)))))
        (pss_cons ps_never
      (pss_cons ps_never
      (pss_one ps_never)))
        pss_nil)
      (pss_one ps_never))))))), ?_⟩
    have hl4 := capL_len ds
    obtain ⟨pl1, pl2, pl3⟩ := btL_plain ds hb
    have btT : bt (.tuple ds) = true := by unfold bt; exact hb
    obtain ⟨t, xs0, rfl, hT0, hL0⟩ := dat_tupI hD
    have small : ∀ {G : Hp} {d' : PyData} {x' : V}, Dat K a G d' x' → cap d' ≤ 2 * capL ds + 12003 → d'.depth ≤ n + 3 → d'.hasDict = false → Sml K a G (n + 3) (2 * capL ds + 12003) d' x' := fun h1 h2 h3 h4 => ⟨h1, h2, h3, fun z => by rw [h4] at z; cases z⟩
    walk_at "rq"
    refine s_cut (fun σ' H' => σ' = [some (.ref a), some (.ref t), none, none, none] ∧ But a H H' ∧ PotAt H' a (c + 1)) ?_ fun N fin => ?_
    · rintro σ' H1 ⟨rfl, b1, P1⟩
      have D0 := dat_but b1 hP hD
      obtain ⟨t', xs, e, hT, hL⟩ := dat_tupI D0
      obtain rfl : t = t' := V.ref.inj e
      have hlen := datL_len hL
      walk_at "r"
      refine r_isiT hT (b := true) (by decide +kernel) ?_
      walk_at "r"
      refine ⟨t, xs, rfl, .inr hT, fun p1 hp1 => ?_⟩
      have s1 := same_new hp1 (o := .lst xs)
      have D1 : Dat K a _ (.list ds) (.ref p1) := dat_lst (P1.fresh hp1) (SqL.of (H := upd H1 p1 (.lst xs)) upd_same) (datL_same s1 hL)
      generalize upd H1 p1 (.lst xs) = G1 at s1 D1 ⊢
      walk_at "r"
      refine r_slA (Same.sqt s1 hT) fun p2 G2 g2 t2 => ?_
      have s2 := s1.trans g2
      rw [show (1 : Int) = ((1 : Nat) : Int) from rfl] at t2
      have D2 : Dat K a G2 (.tuple (ds.drop 1)) (.ref p2) := by
        by_cases h1 : 1 ≤ xs.length
        · rw [cutV_from h1] at t2
          exact dat_tup t2 (datL_drop 1 (datL_same s2 hL))
        · have hx : xs = [] := List.eq_nil_of_length_eq_zero (by omega)
          have hd : ds = [] := List.eq_nil_of_length_eq_zero (by omega)
          subst hx hd
          exact dat_tup t2 datL_nil
      walk_at "r"
      refine r_slA (Same.sqt s2 hT) fun p3 G3 g3 t3 => ?_
      have s3 := s2.trans g3
      rw [show (-(1 : Int)) = -1 from rfl, cutV_dl] at t3
      have D3 : Dat K a G3 (.tuple (ds.take (xs.length - 1))) (.ref p3) := dat_tup t3 (datL_take _ (datL_same s3 hL))
      walk_at "r"
      refine r_slA (Same.sqt s3 hT) fun p4 G4 g4 t4 => ?_
      have s4 := s3.trans g4
      rw [show (-(1 : Int)) = -1 from rfl, cutV_lst] at t4
      refine r_catA (Same.sqt s4 hT) t4 (by rw [List.length_drop]; omega) fun p5 G5 g5 t5 => ?_
      have s5 := s4.trans g5
      have D5 : Dat K a G5 (.tuple (ds ++ ds.drop (xs.length - 1))) (.ref p5) := dat_tup t5 (datL_app (datL_same s5 hL) (datL_drop _ (datL_same s5 hL)))
      walk_at "r"
      refine ⟨_, rfl, t, xs, rfl, Same.sqt s5 hT, fun p6 hp6 => ?_⟩
      have g6 := same_new hp6 (o := .tup xs.reverse)
      have s6 := s5.trans g6
      have D6 : Dat K a _ (.tuple ds.reverse) (.ref p6) := dat_tup (SqT.of (H := upd G5 p6 (.tup xs.reverse)) upd_same) (datL_rev (datL_same s6 hL))
      generalize upd G5 p6 (.tup xs.reverse) = G6 at g6 s6 D6 ⊢
      walk_at "r"
      refine ⟨by decide, fun p7 hp7 => ?_⟩
      have g7 := same_new hp7 (o := .tup [])
      have s7 := s6.trans g7
      have D7 : Dat K a _ (.tuple []) (.ref p7) := dat_tup (SqT.of (H := upd G6 p7 (.tup [])) upd_same) datL_nil
      generalize upd G6 p7 (.tup []) = G7 at g7 s7 D7 ⊢
      walk_at "r"
      refine ⟨by show 1 ≤ sizeLine; decide, fun p8 hp8 => ?_⟩
      have g8 := same_new hp8 (o := .tup [.int 0])
      have s8 := s7.trans g8
      have t8 : SqT K (upd G7 p8 (.tup [.int 0])) p8 [.int 0] := SqT.of upd_same
      generalize upd G7 p8 (.tup [.int 0]) = G8 at g8 s8 t8 ⊢
      refine r_catA (Same.sqt s8 hT) t8 (by simp; omega) fun p9 G9 g9 t9 => ?_
      have s9 := s8.trans g9
      have D9 : Dat K a G9 (.tuple (ds ++ [.int 0])) (.ref p9) := dat_tup t9 (datL_app (datL_same s9 hL) (datL_cons (dat_int (by decide)) datL_nil))
      walk_at "r"
      refine ⟨by show 8 ≤ sizeLine; decide, fun p10 hp10 => ?_⟩
      have g10 := same_new hp10 (o := .lst [.ref p1, .ref p2, .ref p3, .ref p5, .ref p6, .ref p7, .non, .ref p9])
      have s10 := s9.trans g10
      have P10 := P1.same s10
      have n10 : p10 ≠ a := (P1.same s9).fresh hp10
      walk_at "r"
      refine ⟨a, p10, _, _, rfl, P10, by omega, SqL.of upd_same, n10, by simp, by simp, fun H9 x b9 P9 hx => ?_⟩
      have g910 := g9.trans g10
      have g810 := g8.trans g910
      have g710 := g7.trans g810
      have g610 := g6.trans g710
      have g510 := g5.trans g610
      have g410 := g4.trans g510
      have g310 := g3.trans g410
      have g210 := g2.trans g310
      have bb : But a H H9 := (b1.trans (But.of s10)).trans b9
      have PP : PotAt H9 a (c + 10 * n + 30) := P9.mono (by omega)
      have d1 := capL_part 1 ds
      have d2 := capL_part (xs.length - 1) ds
      have c5 := capL_app ds (ds.drop (xs.length - 1))
      have c6 := capL_rev ds
      have c9 := capL_app ds [.int 0]
      have e1 := depthL_drop 1 ds
      have e2 := depthL_take (xs.length - 1) ds
      have e3 := depthL_drop (xs.length - 1) ds
      have e5 := depthL_app ds (ds.drop (xs.length - 1))
      have e6 := depthL_rev ds
      have e9 := depthL_app ds [.int 0]
      simp only [List.mem_cons, List.not_mem_nil, or_false] at hx
      rcases hx with rfl | rfl | rfl | rfl | rfl | rfl | rfl | rfl
      · exact q _ _ _ bb PP (small (dat_but b9 P10 (dat_same g210 D1)) (by simp only [cap]; omega) (by simp only [PyData.depth]; omega) (by simpa only [PyData.hasDict] using pl1))
      · exact q _ _ _ bb PP (small (dat_but b9 P10 (dat_same g310 D2)) (by simp only [cap]; omega) (by simp only [PyData.depth]; omega) (by simpa only [PyData.hasDict] using (btL_plain _ (btL_part hb 1).2).1))
      · exact q _ _ _ bb PP (small (dat_but b9 P10 (dat_same g410 D3)) (by simp only [cap]; omega) (by simp only [PyData.depth]; omega) (by simpa only [PyData.hasDict] using (btL_plain _ (btL_part hb (xs.length - 1)).1).1))
      · exact q _ _ _ bb PP (small (dat_but b9 P10 (dat_same g610 D5)) (by simp only [cap, c5]; omega) (by simp only [PyData.depth, e5]; omega) (by simp only [PyData.hasDict, hasDictL_app, pl1, (btL_plain _ (btL_part hb (xs.length - 1)).2).1]; rfl))
      · exact q _ _ _ bb PP (small (dat_but b9 P10 (dat_same g710 D6)) (by simp only [cap, c6]; omega) (by simp only [PyData.depth, e6]; omega) (by simpa only [PyData.hasDict] using (btL_plain _ (btL_rev hb)).1))
      · exact q _ _ _ bb PP (small (dat_but b9 P10 (dat_same g810 D7)) (by simp only [cap, capL]; omega) (by simp only [PyData.depth, PyData.depthAll]; omega) rfl)
      · exact q _ _ .none bb PP (small dat_non (by simp only [cap]; omega) (by simp only [PyData.depth]; omega) rfl)
      · exact q _ _ _ bb PP (small (dat_but b9 P10 (dat_same g10 D9)) (by simp only [cap, c9, capL]; omega) (by simp only [PyData.depth, e9, PyData.depthAll]; omega) (by simp only [PyData.hasDict, hasDictL_app, pl1]; rfl))
    · walk_at "r"
      refine r_isiT hT0 (b := true) (by decide +kernel) ?_
      walk_at "r"
      refine ⟨by decide, fun p0 hp0 => ?_⟩
      have e0 := same_new hp0 (o := .tup [])
      refine ⟨.tuple ds, .tuple [], dp_of _ btT (dat_same e0 hD), .tup (SqT.of upd_same) .nil, bt_shaped btT (by simp only [PyData.depth]; omega), by decide, ?_⟩
      have P0 := hP.new hp0 (o := .tup [])
      have D0 := dat_same e0 hD
      have b0 : But a H _ := But.of e0
      generalize upd H p0 (.tup []) = H0 at e0 P0 D0 b0 ⊢
      rcases List.eq_nil_or_concat ds with hds | ⟨dsi, dsl, hds⟩
      · refine ⟨false, by rw [hds]; rfl, r_false ?_⟩
        exact fin _ _ ⟨rfl, b0, P0.mono (by omega)⟩
      have hne : (!PyData.eqv (.tuple ds) (.tuple [])) = true := by
        cases ds with
        | nil => simp at hds
        | cons d r => rfl
      have hpos : 0 < ds.length := by rw [hds]; simp
      refine ⟨true, by rw [hne], r_true ?_⟩
      walk_at "r"
      refine ⟨a, 6, c, rfl, P0, by omega, by omega, by omega, fun H1 d b1 P1 d0 d1 => ?_⟩
      have b01 := b0.trans b1
      walk_at "r"
      refine r_dec (fun z1 => ?_) (fun z1 => ?_)
      · have D1 := dat_but b1 P0 D0
        obtain ⟨t1, xs, e, hT, hL⟩ := dat_tupI D1
        obtain rfl : t = t1 := V.ref.inj e
        have hlen := datL_len hL
        walk_at "r"
        refine r_lnU hT ?_
        refine ⟨a, xs.length, _, rfl, P1, by omega, by omega, by omega, fun H2 g b2 P2 g0 g1 => ?_⟩
        obtain ⟨i, rfl⟩ := Int.eq_ofNat_of_zero_le g0
        have b02 := b01.trans b2
        have D2 := dat_but b2 P1 D1
        obtain ⟨t2, xs2, e2, hT2, hL2⟩ := dat_tupI D2
        obtain rfl : t = t2 := V.ref.inj e2
        have hlen2 := datL_len hL2
        walk_at "r"
        refine r_slA hT2 fun p3 H3 e3 t3 => ?_
        rw [cutV_to] at t3
        have D3 : Dat K a H3 (.tuple (ds.take i)) (.ref p3) := dat_tup t3 (datL_take _ (datL_same e3 hL2))
        have P3 := P2.same e3
        have L3 := datL_same e3 hL2
        obtain ⟨di, xi, f1, f2, f3⟩ := datL_at (i := i) L3 (by omega)
        have capi := capL_at f1
        walk_at "r"
        refine r_ixT (Same.sqt e3 hT2) (atI_nat f2) ?_
        walk_at "r"
        refine ⟨a, xi, di, _, rfl, P3, by omega, by omega, f3, btL_mem hb (List.mem_of_getElem? f1), ?_, by omega, fun H4 x' d' b4 P4 S4 => ?_⟩
        · have := depthL_mem (List.mem_of_getElem? f1)
          omega
        have D4 := dat_but b4 P3 D3
        obtain ⟨q3, ys3, e4, hT4, hL4⟩ := dat_tupI D4
        obtain rfl : p3 = q3 := V.ref.inj e4
        have DD4 := dat_but b4 P3 (dat_same e3 D2)
        obtain ⟨t4, xs4, e5, hT5, hL5⟩ := dat_tupI DD4
        obtain rfl : t = t4 := V.ref.inj e5
        have hlen3 := datL_len hL4
        have hlen4 := datL_len hL5
        have hlt : (ds.take i).length ≤ ds.length := by rw [List.length_take]; omega
        walk_at "r"
        refine ⟨by show 1 ≤ sizeLine; decide, fun p5 hp5 => ?_⟩
        have g5 := same_new hp5 (o := .tup [x'])
        have t5 : SqT K (upd H4 p5 (.tup [x'])) p5 [x'] := SqT.of upd_same
        generalize upd H4 p5 (.tup [x']) = H5 at g5 t5 ⊢
        refine r_catA (Same.sqt g5 hT4) t5 (by simp; omega) fun p6 H6 g6 t6 => ?_
        have g46 := g5.trans g6
        walk_at "r"
        rw [show (i : Int) + 1 = ((i + 1 : Nat) : Int) by omega]
        refine r_slA (Same.sqt g46 hT5) fun p7 H7 g7 t7 => ?_
        have g47 := g46.trans g7
        rw [cutV_from (by omega)] at t7
        refine r_catA (Same.sqt g7 t6) t7 (by simp only [List.length_append, List.length_singleton, List.length_drop]; omega) fun p8 H8 g8 t8 => ?_
        have g48 := g47.trans g8
        obtain ⟨sd, sc, se, sh⟩ := S4
        have DL : DatL K a H8 ((ds.take i ++ [d']) ++ ds.drop (i + 1)) ((ys3 ++ [x']) ++ xs4.drop (i + 1)) :=
          datL_app (datL_app (datL_same g48 hL4) (datL_cons (dat_same g48 sd) datL_nil)) (datL_drop _ (datL_same g48 hL5))
        have hp1 := btL_plain _ (btL_part hb i).1
        have hp2 := btL_plain _ (btL_part hb (i + 1)).2
        have w1 := depthL_take i ds
        have w2 := depthL_drop (i + 1) ds
        refine q _ _ (.tuple ((ds.take i ++ [d']) ++ ds.drop (i + 1))) ((((b02.trans (But.of e3)).trans b4).trans (But.of g48))) ((P4.same g48).mono (by omega)) ⟨dat_tup t8 DL, ?_, ?_, ?_⟩
        · simp only [cap, capL_app, capL]; omega
        · simp only [PyData.depth, depthL_app, PyData.depthAll]; omega
        · intro z
          simp only [PyData.hasDict, hasDictL_app, PyData.hasDictAll, hp1.1, hp2.1, Bool.or_false, Bool.false_or] at z
          simp only [noList, noListL_app, noListL, hp1.2.1, hp2.2.1, sh z, Bool.and_self]
      · walk_at "r"
        exact fin _ _ ⟨rfl, b01, P1⟩
def sp_LbentA (K : PySem.W.Frag) : Sp := fun vs H Q E => ((sp_Lbent K vs H Q E ∨ sp_LbentI K vs H Q E) ∨ sp_LbentB K vs H Q E) ∨ sp_LbentE K vs H Q E
theorem ok_LbentA (T : Txt K mg) : Ok P w K mg base CX0 9 "_law_bent" s_Lbent ["pot", "value"] (sp_LbentA K) :=
  ((((ok_Lbent T).mono (by decide)).or ((ok_LbentI T).mono (by decide))).or ((ok_LbentB T).mono (by decide))).or ((ok_LbentE T).mono (by decide))
theorem bent_flat {a : Addr} {x : V} {d : PyData} {c : Int} {H : Hp} {Q : VK} {E : XK} (hP : PotAt H a c) (hc : c ≤ 800000) (hD : Dat K a H d x) (hb : bt d = true) (nt : ∀ ds, d ≠ .tuple ds) (q2 : ∀ H' x' d', But a H H' → PotAt H' a (c + 10) → Sml K a H' 2 10000 d' x' → Q x' H') : sp_LbentA K [.ref a, x] H Q E := by
  cases d with
  | str z =>
    unfold Dat at hD
    unfold bt at hb
    rw [Bool.and_eq_true, decide_eq_true_eq, List.all_eq_true] at hb
    obtain ⟨rfl, _⟩ := hD
    refine .inl (.inl (.inl ⟨a, z.cps.toList, c, by rw [← S_of z], hP, by omega, fun y hy => ?_, ?_, q2⟩))
    · have := hb.2 y hy
      rw [Bool.and_eq_true, decide_eq_true_eq, Bool.not_eq_true', decide_eq_false_iff_not] at this
      exact this
    · have := hb.1
      rw [S_of z, S_len] at this
      exact this
  | int i =>
    unfold Dat at hD
    unfold bt at hb
    obtain ⟨rfl, _⟩ := hD
    exact .inl (.inl (.inr ⟨a, i, c, rfl, hP, by omega, of_decide_eq_true hb, q2⟩))
  | bool b =>
    unfold Dat at hD
    subst hD
    exact .inl (.inr ⟨a, b, c, rfl, hP, by omega, q2⟩)
  | none =>
    unfold Dat at hD
    subst hD
    exact .inr ⟨a, c, rfl, hP, by omega, q2⟩
  | tuple ds => exact absurd rfl (nt ds)
  | list _ => unfold bt at hb; cases hb
  | dict _ => unfold bt at hb; cases hb
theorem ok_LbentN (T : Txt K mg) : ∀ n, Ok P w K mg base CX0 (n + 9) "_law_bent" s_Lbent ["pot", "value"] (sp_LbentN n K)
  | 0 => (ok_LbentA T).imp fun vs H Q E h => by
    obtain ⟨a, x, d, c, rfl, hP, hc, hn, hD, hb, hdep, hcap, q⟩ := h
    refine bent_flat hP (by omega) hD hb (fun ds z => ?_) fun H' x' d' b P S => q H' x' d' b (P.mono (by omega)) ⟨S.1, by have := S.2.1; omega, by have := S.2.2.1; omega, S.2.2.2⟩
    subst z
    simp only [PyData.depth] at hdep
    omega
  | n + 1 => ((ok_LbentT (n := n) (m := n) (ok_LbentN T n) T).or ((ok_LbentA T).mono (k := n + 10) (by omega))).imp fun vs H Q E h => by
    obtain ⟨a, x, d, c, rfl, hP, hc, hn, hD, hb, hdep, hcap, q⟩ := h
    by_cases ht : ∃ ds, d = .tuple ds
    · left
      obtain ⟨ds, rfl⟩ := ht
      simp only [PyData.depth] at hdep
      simp only [cap] at hcap q
      unfold bt at hb
      exact ⟨a, x, ds, c, rfl, hP, by omega, by omega, hD, hb, by omega, by omega, fun H' x' d' b P S => q H' x' d' b (P.mono (by omega)) ⟨S.1, by have := S.2.1; omega, by have := S.2.2.1; omega, S.2.2.2⟩⟩
    · right
      exact bent_flat hP (by omega) hD hb (fun ds z => ht ⟨ds, z⟩) fun H' x' d' b P S => q H' x' d' b (P.mono (by omega)) ⟨S.1, by have := S.2.1; omega, by have := S.2.2.1; omega, S.2.2.2⟩

def sp_is_made_of_fates (K : PySem.W.Frag) : Sp := fun vs H Q _ => ∃ (x : V) (d : PyData) (z0 : Addr), vs = [x] ∧ Dat K z0 H d x ∧ cap d ≤ 1000000 ∧ ∀ H', Same H H' → Q (.bl (wdD 0 1000000 d)) H'
theorem ok_is_made_of_fates (T : Txt K mg) : Ok P w K mg base CX0 (1) "is_made_of_fates" s_is_made_of_fates ["value"] (sp_is_made_of_fates K) := by
  obtain ⟨fd, D⟩ := T.d_is_made_of_fates
  refine ⟨⟨_, fd, T.g_is_made_of_fates, D, D.bindsN (fun _ _ _ _ _ _ us hl => match us, hl with | [_], _ => rfl), ?_⟩⟩
  refine D.ok sc_is_made_of_fates (fun vs H Q E h => ?_) (fun cdv A outer s H vs Q E hr h => ?_)
  · obtain ⟨x, d, z0, rfl, hd, hc, q⟩ := h
    rfl
  · obtain ⟨x, d, z0, rfl, hd, hc, q⟩ := h
    refine ⟨_, PSs.nox (pss_one (ps_ret (pe_and (pe_cmpR o_isT (pe_callTy call_type1 (by rfl) T.z_type (by decide +kernel) (pa_cons (pv 0) pa_nil)) (pe_bltn (v := .ty "str") (by rfl) T.z_str (by decide +kernel) rfl) (nomark _)) (pe_one (pe_callB (cr_all rfl) (by rfl) T.z_all (by decide +kernel) (pa_cons (pe_lc (own := [("sign", 1)]) (g := gName 1) (tt := tYes) rfl sc_is_made_of_fates.nd (pi_str (pv 0)) (blkOk_by (N := ["value", "sign"]) (sc := defScope s_is_made_of_fates) (by decide +kernel)) (fun _ _ _ _ _ => (pg_name (i := 1) sc_is_made_of_fates.nd rfl (by first | exact Or.inl rfl | exact Or.inr rfl))) (fun _ _ _ _ _ => pts_nil) (fun _ _ _ _ _ => (pe_cmpR o_inC (pv 1) (pe_gstrS [110, 102, 115] (by rfl) (by rfl) T.c_FATES) (by rfl)))) pa_nil)))))), ?_⟩
    walk_at "r"
    refine r_typ (dat_ty hd) ?_
    walk_at "r"
    by_cases ht : datTy d = "str"
    · obtain ⟨z, rfl⟩ := ty_str ht
      obtain ⟨l, rfl⟩ : ∃ l, z = S l := ⟨_, S_of z⟩
      have hl : l.length ≤ 100000 := by simp only [cap, S_len] at hc; omega
      unfold Dat at hd
      obtain ⟨rfl, _⟩ := hd
      refine r_yesD rfl ?_
      walk_at "r"
      have e0 : wdD 0 1000000 (.str (S l)) = (l.all fun c => decide (c ∈ [110, 102, 115])) := by
        rw [wdD_S, decide_eq_true (by omega : l.length ≤ 1000000)]; simp
      refine ⟨_, rfl, fun D hD => lcS_test (l := l) (fun c => decide (c ∈ [110, 102, 115])) hD (by omega) (fun i c H' e e' R hR => ?_) fun H' e e' => ?_⟩
      · walk_at "r"
        refine ⟨rfl, ?_⟩
        walk_at "r"
        exact hR _ (Same.refl _)
      · walk_at "r"
        refine r_allB e' ?_
        have := q _ e
        rw [e0] at this
        rw [List.all_map]
        exact this
    · rw [decide_eq_false ht]
      walk_at "r"
      have := q _ (Same.refl _)
      rw [wdD_str ht] at this
      exact this
def sp_is_word (K : PySem.W.Frag) : Sp := fun vs H Q _ => ∃ (x : V) (d : PyData) (z0 : Addr), vs = [x] ∧ Dat K z0 H d x ∧ cap d ≤ 1000000 ∧ ∀ H', Same H H' → Q (.bl (wdD 0 200 d)) H'
theorem ok_is_word (T : Txt K mg) : Ok P w K mg base CX0 (2) "is_word" s_is_word ["value"] (sp_is_word K) := by
  obtain ⟨fd, D⟩ := T.d_is_word
  refine ⟨⟨_, fd, T.g_is_word, D, D.bindsN (fun _ _ _ _ _ _ us hl => match us, hl with | [_], _ => rfl), ?_⟩⟩
  refine D.ok sc_is_word (fun vs H Q E h => ?_) (fun cdv A outer s H vs Q E hr h => ?_)
  · obtain ⟨x, d, z0, rfl, hd, hc, q⟩ := h
    rfl
  · obtain ⟨x, d, z0, rfl, hd, hc, q⟩ := h
    have F_is_made_of_fates := ok_is_made_of_fates (P := P) (w := w) (K := K) (mg := mg) (base := base) T
    refine ⟨_, PSs.nox (pss_one (ps_ret (pe_and (pe_cmpR o_isT (pe_callTy call_type1 (by rfl) T.z_type (by decide +kernel) (pa_cons (pv 0) pa_nil)) (pe_bltn (v := .ty "str") (by rfl) T.z_str (by decide +kernel) rfl) (nomark _)) (pe_and (pe_cmpR op_le (pe_callB k_lnS (by rfl) T.z_len (by decide +kernel) (pa_cons (pv 0) pa_nil)) (pe_gint (by rfl) T.c_MOST_FATES) (nomark _)) (pe_one (pe_cl F_is_made_of_fates hr (by rfl) pass0 (pa_cons (pv 0) pa_nil))))))), ?_⟩
    walk_at "r"
    refine r_typ (dat_ty hd) ?_
    walk_at "r"
    by_cases ht : datTy d = "str"
    · obtain ⟨z, rfl⟩ := ty_str ht
      obtain ⟨l, rfl⟩ : ∃ l, z = S l := ⟨_, S_of z⟩
      have hl : l.length ≤ 100000 := by simp only [cap, S_len] at hc; omega
      have hd0 := hd
      unfold Dat at hd
      obtain ⟨rfl, _⟩ := hd
      refine r_yesD rfl ?_
      walk_at "r"
      refine r_lnT (l := l) (by omega) ?_
      walk_at "r"
      refine r_dec (fun h => ?_) (fun h => ?_)
      · walk_at "r"
        refine ⟨_, _, z0, rfl, hd0, hc, fun H1 e1 => ?_⟩
        have := q _ e1
        rw [show wdD 0 200 (.str (S l)) = wdD 0 1000000 (.str (S l)) by rw [wdD_S, wdD_S, decide_eq_true (by omega : l.length ≤ 200), decide_eq_true (by omega : l.length ≤ 1000000)]] at this
        exact this
      · walk_at "r"
        have := q _ (Same.refl _)
        rw [show wdD 0 200 (.str (S l)) = false by rw [wdD_S, decide_eq_false (by omega : ¬ l.length ≤ 200)]; simp] at this
        exact this
    · rw [decide_eq_false ht]
      walk_at "r"
      have := q _ (Same.refl _)
      rw [wdD_str ht] at this
      exact this
def sp_need_word (K : PySem.W.Frag) : Sp := fun vs H Q E => ∃ (x : V) (d : PyData) (z0 : Addr), vs = [x] ∧ Dat K z0 H d x ∧ cap d ≤ 1000000 ∧ (wdD 0 200 d = true → ∀ H', Same H H' → Q .non H') ∧ (wdD 0 200 d = false → ∀ H' e, Same H H' → H e = none → H' e = some (.xd [("value", x)]) → E (.ref (He.ga K "BadWord")) (some e) H')
theorem ok_need_word (T : Txt K mg) : Ok P w K mg base (L2.CX P w) (3) "need_word" s_need_word ["value"] (sp_need_word K) := by
  obtain ⟨fd, D⟩ := T.d_need_word
  refine ⟨⟨_, fd, T.g_need_word, D, D.bindsN (fun _ _ _ _ _ _ us hl => match us, hl with | [_], _ => rfl), ?_⟩⟩
  refine D.ok sc_need_word (fun vs H Q E h => ?_) (fun cdv A outer s H vs Q E hr h => ?_)
  · obtain ⟨x, d, z0, rfl, hd, hc, q1, q2⟩ := h
    rfl
  · obtain ⟨x, d, z0, rfl, hd, hc, q1, q2⟩ := h
    have F_is_word := ok_is_word (P := P) (w := w) (K := K) (mg := mg) (base := base) T
    refine ⟨_, (pss_one (ps_if (pt_not (pt_val (pe_cl F_is_word hr (by rfl) pass0 (pa_cons (pv 0) pa_nil))))
        (pss_one (ps_err T.e_BadWord (ok_errI T) T.g_BadWord hr rfl (takes_of rfl rfl rfl rfl) (by rfl) (pv 0)))
        pss_nil)), ?_⟩
    walk_at "r"
    refine ⟨x, d, z0, rfl, hd, hc, fun H1 e1 => ?_⟩
    walk_at "r"
    cases hw : wdD 0 200 d with
    | true =>
      walk_at "r"
      exact q1 hw _ e1
    | false =>
      walk_at "r"
      refine r_rz ?_
      walk_at "r"
      exact err_of T.e_BadWord fun e he => q2 hw _ e (e1.trans (same_new he)) (e1.free he) upd_same
def sp_is_whole (K : PySem.W.Frag) : Sp := fun vs H Q _ => ∃ (x : V) (d : PyData) (z0 : Addr), vs = [x] ∧ Dat K z0 H d x ∧ Q (.bl (decide (datTy d = "int"))) H
theorem ok_is_whole (T : Txt K mg) : Ok P w K mg base CX0 (1) "is_whole" s_is_whole ["value"] (sp_is_whole K) := by
  obtain ⟨fd, D⟩ := T.d_is_whole
  refine ⟨⟨_, fd, T.g_is_whole, D, D.bindsN (fun _ _ _ _ _ _ us hl => match us, hl with | [_], _ => rfl), ?_⟩⟩
  refine D.ok sc_is_whole (fun vs H Q E h => ?_) (fun cdv A outer s H vs Q E hr h => ?_)
  · obtain ⟨x, d, z0, rfl, hd, q⟩ := h
    rfl
  · obtain ⟨x, d, z0, rfl, hd, q⟩ := h
    refine ⟨_, PSs.nox (pss_one (ps_ret (pe_cmpR o_isT (pe_callTy call_type1 (by rfl) T.z_type (by decide +kernel) (pa_cons (pv 0) pa_nil)) (pe_bltn (v := .ty "int") (by rfl) T.z_int (by decide +kernel) rfl) (nomark _)))), ?_⟩
    walk_at "r"
    refine r_typ (dat_ty hd) ?_
    walk_at "r"
    exact q
def sp_need_number (K : PySem.W.Frag) : Sp := fun vs H Q E => ∃ (x : V) (d : PyData) (z0 : Addr) (m : Int), vs = [x, .int m] ∧ Dat K z0 H d x ∧ ((∃ i, d = .int i ∧ 0 ≤ i ∧ i ≤ m) → Q .non H) ∧ ((∀ i, d = .int i → ¬ (0 ≤ i ∧ i ≤ m)) → ∀ H' e, Same H H' → H e = none → H' e = some (.xd [("value", x)]) → E (.ref (He.ga K "BadNumber")) (some e) H')
theorem ok_need_number (T : Txt K mg) : Ok P w K mg base (L2.CX P w) (3) "need_number" s_need_number ["value", "most"] (sp_need_number K) := by
  obtain ⟨fd, D⟩ := T.d_need_number
  refine ⟨⟨_, fd, T.g_need_number, D, D.bindsN (fun _ _ _ _ _ _ us hl => match us, hl with | [_, _], _ => rfl), ?_⟩⟩
  refine D.ok sc_need_number (fun vs H Q E h => ?_) (fun cdv A outer s H vs Q E hr h => ?_)
  · obtain ⟨x, d, z0, m, rfl, hd, q1, q2⟩ := h
    rfl
  · obtain ⟨x, d, z0, m, rfl, hd, q1, q2⟩ := h
    have F_is_whole := ok_is_whole (P := P) (w := w) (K := K) (mg := mg) (base := base) T
    refine ⟨_, (pss_one (ps_if (PW.pt (pw_or (pt_not (pt_val (pe_cl F_is_whole hr (by rfl) pass0 (pa_cons (pv 0) pa_nil)))) (pw_or1 (pt_not (pt_chain op_le op_le pe_int (pv 0) (pv 1))))))
        (pss_one (ps_err T.e_BadNumber (ok_errI T) T.g_BadNumber hr rfl (takes_of rfl rfl rfl rfl) (by rfl) (pv 0)))
        pss_nil)), ?_⟩
    walk_at "r"
    refine ⟨x, d, z0, rfl, hd, ?_⟩
    walk_at "r"
    have bad : (∀ i, d = .int i → ¬ (0 ≤ i ∧ i ≤ m)) → tRz K (He.ga K "BadNumber") (fun cls d _ H => E cls d H) (tCons (tVar 0) tNil) { nx := fun _ H' => Q .non H', rt := Q } [some x, some (.int m)] H := fun h => by
      refine r_rz ?_
      walk_at "r"
      exact err_of T.e_BadNumber fun e he => q2 h _ e (same_new he) he upd_same
    by_cases ht : datTy d = "int"
    · obtain ⟨i, rfl⟩ : ∃ i, d = .int i := by
        cases d with
        | int i => exact ⟨i, rfl⟩
        | _ => simp [datTy] at ht
      unfold Dat at hd
      obtain ⟨rfl, _⟩ := hd
      rw [decide_eq_true ht]
      walk_at "r"
      refine r_dec (fun h1 => ?_) (fun h1 => ?_)
      · walk_at "r"
        by_cases h2 : i ≤ m
        · rw [decide_eq_true h2]
          walk_at "r"
          exact q1 ⟨i, rfl, h1, h2⟩
        · rw [decide_eq_false h2]
          walk_at "r"
          exact bad fun j e => by cases e; omega
      · walk_at "r"
        exact bad fun j e => by cases e; omega
    · rw [decide_eq_false ht]
      walk_at "r"
      exact bad fun i e => by rw [e] at ht; simp [datTy] at ht

def longD : PyData → Bool
  | .tuple [h, r] => wdD 0 1000000 h && wdD 1 1000000 r
  | _ => false
theorem longD_tup {d : PyData} (h : longD d = true) : ∃ l1 l2, d = .tuple [.str (S l1), .str (S l2)] := by
  match d, h with
  | .tuple [d1, d2], h =>
    obtain ⟨h1, h2⟩ := Bool.and_eq_true_iff.mp h
    cases d1 with
    | str z1 =>
      cases d2 with
      | str z2 => exact ⟨z1.cps.toList, z2.cps.toList, by have e1 := S_of z1; have e2 := S_of z2; rw [← e1, ← e2]⟩
      | _ => unfold wdD at h2; cases h2
    | _ => unfold wdD at h1; cases h1
theorem longD_loss {l1 l2 : List Nat} (h : longD (.tuple [.str (S l1), .str (S l2)]) = true) : lossD (.tuple [.str (S l1), .str (S l2)]) = (decide (l1.length ≤ 200) && decide (l2.length ≤ 200)) := by
  obtain ⟨h1, h2⟩ := Bool.and_eq_true_iff.mp h
  show (wdD 0 200 (.str (S l1)) && wdD 1 200 (.str (S l2))) = _
  rw [wdD_S] at h1 h2 ⊢
  rw [wdD_S]
  simp only [Bool.and_eq_true] at h1 h2
  rw [h1.2.2, h2.2.2, h2.1]
  simp
theorem longD_not {d : PyData} (h : longD d = false) : lossD d = false := by
  cases hh : lossD d with
  | false => rfl
  | true =>
    match d, hh with
    | .tuple [d1, d2], hh =>
      obtain ⟨h1, h2⟩ := Bool.and_eq_true_iff.mp hh
      have w : ∀ lo d, wdD lo 200 d = true → wdD lo 1000000 d = true := fun lo d hw => by
        cases d with
        | str z =>
          rw [S_of z, wdD_S] at hw ⊢
          simp only [Bool.and_eq_true, decide_eq_true_eq] at hw ⊢
          exact ⟨hw.1, by omega, hw.2.2⟩
        | _ => unfold wdD at hw; cases hw
      have : longD (.tuple [d1, d2]) = true := by
        show (wdD 0 1000000 d1 && wdD 1 1000000 d2) = true
        rw [w 0 d1 h1, w 1 d2 h2]; rfl
      rw [this] at h
      cases h
def sp_is_long_loss (K : PySem.W.Frag) : Sp := fun vs H Q _ => ∃ (x : V) (d : PyData) (z0 : Addr), vs = [x] ∧ Dat K z0 H d x ∧ cap d ≤ 1000000 ∧ ∀ H', Same H H' → Q (.bl (longD d)) H'
theorem ok_is_long_loss (T : Txt K mg) : Ok P w K mg base CX0 (2) "is_long_loss" s_is_long_loss ["value"] (sp_is_long_loss K) := by
  obtain ⟨fd, D⟩ := T.d_is_long_loss
  refine ⟨⟨_, fd, T.g_is_long_loss, D, D.bindsN (fun _ _ _ _ _ _ us hl => match us, hl with | [_], _ => rfl), ?_⟩⟩
  refine D.ok sc_is_long_loss (fun vs H Q E h => ?_) (fun cdv A outer s H vs Q E hr h => ?_)
  · obtain ⟨x, d, z0, rfl, hd, hc, q⟩ := h
    rfl
  · obtain ⟨x, d, z0, rfl, hd, hc, q⟩ := h
    have F_is_made_of_fates := ok_is_made_of_fates (P := P) (w := w) (K := K) (mg := mg) (base := base) T
    refine ⟨_, PSs.nox (pss_cons (ps_if (PW.pt (pw_or (pt_cmpR o_noT (pe_callTy call_type1 (by rfl) T.z_type (by decide +kernel) (pa_cons (pv 0) pa_nil)) (pe_bltn (v := .ty "tuple") (by rfl) T.z_tuple (by decide +kernel) rfl) (nomark _)) (pw_or1 (pt_cmpR op_ne (pe_callB k_lnQ (by rfl) T.z_len (by decide +kernel) (pa_cons (pv 0) pa_nil)) pe_int (nomark _)))))
        (pss_one (ps_ret pe_bl))
        pss_nil)
      (pss_one (ps_ret (pe_and (pe_callB (cr_all rfl) (by rfl) T.z_all (by decide +kernel) (pa_cons (pe_lc (own := [("word", 1)]) (g := gName 1) (tt := tYes) rfl sc_is_long_loss.nd (pi_tup (pv 0)) (blkOk_by (N := ["value", "word"]) (sc := defScope s_is_long_loss) (by decide +kernel)) (fun _ _ _ _ _ => (pg_name (i := 1) sc_is_long_loss.nd rfl (by first | exact Or.inl rfl | exact Or.inr rfl))) (fun _ _ _ _ _ => pts_nil) (fun _ _ _ _ _ => (pe_cl F_is_made_of_fates hr (by rfl) pass0 (pa_cons (pv 1) pa_nil)))) pa_nil)) (pe_one (pe_cmpR op_ne (pe_ix ix_tup (pv 0) pe_int (fun _ _ => rfl)) (pe_strS [] (by rfl)) (nomark _))))))), ?_⟩
    walk_at "r"
    refine r_typ (dat_ty hd) ?_
    walk_at "r"
    have bad : longD d = false → Q (.bl false) H := fun h => by
      have := q _ (Same.refl _)
      rw [h] at this
      exact this
    by_cases ht : datTy d = "tuple"
    · obtain ⟨ds, rfl⟩ := ty_tup ht
      unfold Dat at hd
      obtain ⟨a, xs, rfl, hS, hds⟩ := hd
      rw [decide_eq_true ht]
      walk_at "r"
      refine r_lnU hS ?_
      walk_at "r"
      have hlen := datL_len hds
      by_cases h2 : xs.length = 2
      · rw [decide_eq_true (by rw [h2]; rfl : V.int (xs.length : Int) = V.int 2)]
        walk_at "r"
        obtain ⟨d1, d2, rfl⟩ : ∃ d1 d2, ds = [d1, d2] := by
          match ds, hlen with
          | [d1, d2], _ => exact ⟨d1, d2, rfl⟩
          | [], h => simp at h; omega
          | [_], h => simp at h; omega
          | _ :: _ :: _ :: _, h => simp at h; omega
        obtain ⟨x1, x2, rfl, hd1, hd2⟩ := datL_two hds
        have c1 : cap d1 ≤ 1000000 ∧ cap d2 ≤ 1000000 := by simp only [cap, capL] at hc; omega
        refine ⟨a, rfl, ⟨_, hS⟩, fun D hD => lcT_bl [wdD 0 1000000 d1, wdD 0 1000000 d2] rfl hD hS (by show 2 ≤ 1000000; decide) (fun i x b H' e eb e' R hR => ?_) fun H' e e' => ?_⟩
        · walk_at "r"
          refine ⟨rfl, ?_⟩
          walk_at "r"
          match i, e, eb with
          | 0, e, eb =>
            obtain rfl : x1 = x := Option.some.inj e
            obtain rfl : wdD 0 1000000 d1 = b := Option.some.inj eb
            exact ⟨x1, d1, z0, rfl, dat_same e' hd1, c1.1, hR⟩
          | 1, e, eb =>
            obtain rfl : x2 = x := Option.some.inj e
            obtain rfl : wdD 0 1000000 d2 = b := Option.some.inj eb
            exact ⟨x2, d2, z0, rfl, dat_same e' hd2, c1.2, hR⟩
        · walk_at "r"
          refine r_allB e' ?_
          walk_at "r"
          have qe := q _ e
          cases w1 : wdD 0 1000000 d1 with
          | false =>
            walk_at "r"
            rw [show longD (.tuple [d1, d2]) = false by simp [longD, w1]] at qe
            exact qe
          | true =>
            cases w2 : wdD 0 1000000 d2 with
            | false =>
              walk_at "r"
              rw [show longD (.tuple [d1, d2]) = false by
                have : wdD 1 1000000 d2 = false := by
                  cases d2 with
                  | str z =>
                    have w2 : (decide (0 ≤ z.length) && (decide (z.length ≤ 1000000) && z.cps.toList.all fun c => decide (c ∈ [110, 102, 115]))) = false := w2
                    simp only [Nat.zero_le, decide_true, Bool.true_and] at w2
                    show (decide (1 ≤ z.length) && (decide (z.length ≤ 1000000) && z.cps.toList.all fun c => decide (c ∈ [110, 102, 115]))) = false
                    rw [w2, Bool.and_false]
                  | _ => rfl
                simp [longD, this]] at qe
              exact qe
            | true =>
              walk_at "r"
              obtain ⟨l, rfl, rfl⟩ := wdD_val w2 hd2
              refine r_true ?_
              walk_at "r"
              refine r_ixT (Same.sqt e hS) rfl ?_
              walk_at "r"
              rw [show longD (.tuple [d1, .str (S l)]) = !decide (V.str (S l) = V.str (S [])) by
                rw [wdD_S] at w2
                simp only [longD, w1, Bool.true_and]
                rw [wdD_S]
                simp only [Nat.zero_le, decide_true, Bool.true_and] at w2
                rw [w2, Bool.and_true]
                by_cases e : l = []
                · subst e
                  simp
                · rw [show decide (1 ≤ l.length) = true from decide_eq_true (List.length_pos_iff.mpr e), decide_eq_false (fun z => e (S_iff.mp z))]
                  rfl] at qe
              exact qe
      · rw [decide_eq_false (fun z => h2 (by have := V.int.inj z; omega))]
        walk_at "r"
        refine bad ?_
        match ds, hlen with
        | [], _ => rfl
        | [_], _ => rfl
        | [_, _], h => exact absurd h.symm h2
        | _ :: _ :: _ :: _, _ => rfl
    · rw [decide_eq_false ht]
      walk_at "r"
      refine bad ?_
      cases d with
      | tuple ds => exact absurd rfl ht
      | _ => rfl
def sp_is_loss (K : PySem.W.Frag) : Sp := fun vs H Q _ => ∃ (x : V) (d : PyData) (z0 : Addr), vs = [x] ∧ Dat K z0 H d x ∧ cap d ≤ 1000000 ∧ ∀ H', Same H H' → Q (.bl (lossD d)) H'
theorem ok_is_loss (T : Txt K mg) : Ok P w K mg base CX0 (3) "is_loss" s_is_loss ["value"] (sp_is_loss K) := by
  obtain ⟨fd, D⟩ := T.d_is_loss
  refine ⟨⟨_, fd, T.g_is_loss, D, D.bindsN (fun _ _ _ _ _ _ us hl => match us, hl with | [_], _ => rfl), ?_⟩⟩
  refine D.ok sc_is_loss (fun vs H Q E h => ?_) (fun cdv A outer s H vs Q E hr h => ?_)
  · obtain ⟨x, d, z0, rfl, hd, hc, q⟩ := h
    rfl
  · obtain ⟨x, d, z0, rfl, hd, hc, q⟩ := h
    have F_is_long_loss := ok_is_long_loss (P := P) (w := w) (K := K) (mg := mg) (base := base) T
    refine ⟨_, PSs.nox (pss_one (ps_ret (pe_and (pe_cl F_is_long_loss hr (by rfl) pass0 (pa_cons (pv 0) pa_nil)) (pe_one (pe_callB (cr_all rfl) (by rfl) T.z_all (by decide +kernel) (pa_cons (pe_lc (own := [("word", 1)]) (g := gName 1) (tt := tYes) rfl sc_is_loss.nd (pi_tup (pv 0)) (blkOk_by (N := ["value", "word"]) (sc := defScope s_is_loss) (by decide +kernel)) (fun _ _ _ _ _ => (pg_name (i := 1) sc_is_loss.nd rfl (by first | exact Or.inl rfl | exact Or.inr rfl))) (fun _ _ _ _ _ => pts_nil) (fun _ _ _ _ _ => (pe_cmpR op_le (pe_callB k_lnS (by rfl) T.z_len (by decide +kernel) (pa_cons (pv 1) pa_nil)) (pe_gint (by rfl) T.c_MOST_FATES) (nomark _)))) pa_nil)))))), ?_⟩
    walk_at "r"
    refine ⟨x, d, z0, rfl, hd, hc, fun H1 e1 => ?_⟩
    walk_at "r"
    cases hL : longD d with
    | false =>
      walk_at "r"
      have := q _ e1
      rw [longD_not hL] at this
      exact this
    | true =>
      obtain ⟨l1, l2, rfl⟩ := longD_tup hL
      walk_at "r"
      unfold Dat at hd
      obtain ⟨a, xs, rfl, hS, hds⟩ := hd
      obtain ⟨x1, x2, rfl, hd1, hd2⟩ := datL_two hds
      unfold Dat at hd1 hd2
      obtain ⟨rfl, _⟩ := hd1
      obtain ⟨rfl, _⟩ := hd2
      have c1 : l1.length ≤ 100000 ∧ l2.length ≤ 100000 := by simp only [cap, capL, S_len] at hc; omega
      have hS1 := Same.sqt e1 hS
      refine ⟨a, rfl, ⟨_, hS1⟩, fun D hD => lcT_bl [decide (l1.length ≤ 200), decide (l2.length ≤ 200)] rfl hD hS1 (by show 2 ≤ 1000000; decide) (fun i x b H' e eb e' R hR => ?_) fun H' e e' => ?_⟩
      · walk_at "r"
        refine ⟨rfl, ?_⟩
        walk_at "r"
        match i, e, eb with
        | 0, e, eb =>
          obtain rfl : V.str (S l1) = x := Option.some.inj e
          obtain rfl : decide (l1.length ≤ 200) = b := Option.some.inj eb
          refine r_lnT (l := l1) (by omega) ?_
          walk_at "r"
          rw [show decide ((l1.length : Int) ≤ 200) = decide (l1.length ≤ 200) from decide_eq_decide.mpr (by omega)]
          exact hR _ (Same.refl _)
        | 1, e, eb =>
          obtain rfl : V.str (S l2) = x := Option.some.inj e
          obtain rfl : decide (l2.length ≤ 200) = b := Option.some.inj eb
          refine r_lnT (l := l2) (by omega) ?_
          walk_at "r"
          rw [show decide ((l2.length : Int) ≤ 200) = decide (l2.length ≤ 200) from decide_eq_decide.mpr (by omega)]
          exact hR _ (Same.refl _)
      · walk_at "r"
        refine r_allB e' ?_
        have := q _ (e1.trans e)
        rw [longD_loss hL] at this
        rw [show [decide (l1.length ≤ 200), decide (l2.length ≤ 200)].all id = (decide (l1.length ≤ 200) && decide (l2.length ≤ 200)) by simp]
        exact this
/-- a loss that stands at t -/
def LossAt (K : PySem.W.Frag) (H : Hp) (t : Addr) (h r : List Nat) : Prop := SqT K H t [.str (S h), .str (S r)] ∧ Wd h ∧ Wd r ∧ h.length ≤ 200 ∧ r.length ≤ 200 ∧ 0 < r.length
theorem LossAt.same {K : PySem.W.Frag} {H H' : Hp} {t : Addr} {h r : List Nat} (x : LossAt K H t h r) (e : Same H H') : LossAt K H' t h r := ⟨Same.sqt e x.1, x.2⟩
theorem lossAt_of {K : PySem.W.Frag} {z0 : Addr} {H : Hp} {d : PyData} {x : V} (h : lossD d = true) (hd : Dat K z0 H d x) : ∃ t a b, x = .ref t ∧ LossAt K H t a b := by
  unfold lossD at h
  split at h
  · rename_i d1 d2
    obtain ⟨w1, w2⟩ := Bool.and_eq_true_iff.mp h
    unfold Dat at hd
    obtain ⟨t, xs, rfl, hS, hds⟩ := hd
    obtain ⟨x1, x2, rfl, h1, h2⟩ := datL_two hds
    obtain ⟨l1, rfl, rfl⟩ := wdD_val w1 h1
    obtain ⟨l2, rfl, rfl⟩ := wdD_val w2 h2
    obtain ⟨a1, a2, a3⟩ := wdD_true w1
    obtain ⟨b1, b2, b3⟩ := wdD_true w2
    exact ⟨t, l1, l2, rfl, hS, a1, b1, a3, b3, b2⟩
  · cases h
def sp_need_loss (K : PySem.W.Frag) : Sp := fun vs H Q E => ∃ (x : V) (d : PyData) (z0 : Addr), vs = [x] ∧ Dat K z0 H d x ∧ cap d ≤ 1000000 ∧ (lossD d = true → ∀ H', Same H H' → Q .non H') ∧ (lossD d = false → ∀ H' e, Same H H' → H e = none → H' e = some (.xd [("value", x)]) → E (.ref (He.ga K "BadLoss")) (some e) H')
theorem ok_need_loss (T : Txt K mg) : Ok P w K mg base (L2.CX P w) (4) "need_loss" s_need_loss ["value"] (sp_need_loss K) := by
  obtain ⟨fd, D⟩ := T.d_need_loss
  refine ⟨⟨_, fd, T.g_need_loss, D, D.bindsN (fun _ _ _ _ _ _ us hl => match us, hl with | [_], _ => rfl), ?_⟩⟩
  refine D.ok sc_need_loss (fun vs H Q E h => ?_) (fun cdv A outer s H vs Q E hr h => ?_)
  · obtain ⟨x, d, z0, rfl, hd, hc, q1, q2⟩ := h
    rfl
  · obtain ⟨x, d, z0, rfl, hd, hc, q1, q2⟩ := h
    have F_is_loss := ok_is_loss (P := P) (w := w) (K := K) (mg := mg) (base := base) T
    refine ⟨_, (pss_one (ps_if (pt_not (pt_val (pe_cl F_is_loss hr (by rfl) pass0 (pa_cons (pv 0) pa_nil))))
        (pss_one (ps_err T.e_BadLoss (ok_errI T) T.g_BadLoss hr rfl (takes_of rfl rfl rfl rfl) (by rfl) (pv 0)))
        pss_nil)), ?_⟩
    walk_at "r"
    refine ⟨x, d, z0, rfl, hd, hc, fun H1 e1 => ?_⟩
    walk_at "r"
    cases hw : lossD d with
    | true =>
      walk_at "r"
      exact q1 hw _ e1
    | false =>
      walk_at "r"
      refine r_rz ?_
      walk_at "r"
      exact err_of T.e_BadLoss fun e he => q2 hw _ e (e1.trans (same_new he)) (e1.free he) upd_same

def sp_shortest_ring (K : PySem.W.Frag) : Sp := fun vs H Q _ => ∃ r : List Nat, vs = [.str (S r)] ∧ 0 < r.length ∧ r.length ≤ 1000 ∧ ∀ p, IsMin (rw [] r) 0 p → Q (.str (S (r.take p))) H
theorem ok_shortest_ring (T : Txt K mg) : Ok P w K mg base CX0 (1) "shortest_ring" s_shortest_ring ["ring"] (sp_shortest_ring K) := by
  obtain ⟨fd, D⟩ := T.d_shortest_ring
  refine ⟨⟨_, fd, T.g_shortest_ring, D, D.bindsN (fun _ _ _ _ _ _ us hl => match us, hl with | [_], _ => rfl), ?_⟩⟩
  refine D.ok sc_shortest_ring (fun vs H Q E h => ?_) (fun cdv A outer s H vs Q E hr h => ?_)
  · obtain ⟨r, rfl, r0, lr, q⟩ := h
    rfl
  · obtain ⟨r, rfl, r0, lr, q⟩ := h
    refine ⟨_, PSs.nox (pss_cons (ps_for PassesOwn.never rfl (pi_range2 (by rfl) T.z_range (pa_cons pe_int (pa_cons (pe_callB k_lnS (by rfl) T.z_len (by decide +kernel) (pa_cons (pv 0) pa_nil)) pa_nil))) (pg_name (i := 1) sc_shortest_ring.nd rfl (by first | exact Or.inl rfl | exact Or.inr rfl))
        (pss_one (ps_if (pt_cmpR op_eq (pe_op op_mul_str (pe_slice sl_str (pv 0) po_none (po_some (pv 1))) (pe_op op_fdiv (pe_callB k_lnS (by rfl) T.z_len (by decide +kernel) (pa_cons (pv 0) pa_nil)) (pv 1))) (pv 0) (nomark _))
        (pss_one (ps_ret (pe_slice sl_str (pv 0) po_none (po_some (pv 1)))))
        pss_nil)))
      (pss_one (ps_ret (pv 0)))), ?_⟩
    obtain ⟨p, hp, hl⟩ := least_ex (P := fun p => 0 < p ∧ Per (rw [] r) 0 p) r.length ⟨r0, rw_per [] r⟩
    have m : IsMin (rw [] r) 0 p := ⟨hp.1, hp.2, fun _ _ _ _ => Nat.zero_le _, fun p' h1 h2 => hl p' ⟨h1, h2⟩⟩
    have hpr := short_pos r0 m
    have dv : p ∣ r.length := per_dvd m.pos m.per m.ring (rw_per [] r)
    walk_at "r"
    refine r_lnT (l := r) (by omega) ?_
    walk_at "r"
    refine ⟨_, _, rfl, ⟨by decide, by decide, by omega, by omega⟩, for_range (n := ((r.length : Int) - 1).toNat) (fun i σ H' => ∃ y, σ = [some (.str (S r)), y] ∧ H' = H ∧ i < p) ⟨_, rfl, rfl, m.pos⟩ ?_ ?_⟩
    · rintro i σ H' hi ⟨y, rfl, rfl, hip⟩
      have hd : (1 : Int) + i = ((i + 1 : Nat) : Int) := by omega
      walk_at "r"
      rw [hd]
      refine r_slS (l := r) (by omega) ?_
      rw [cut_take]
      walk_at "r"
      refine r_lnT (l := r) (by omega) ?_
      walk_at "r"
      refine r_I ⟨by show (0 : Int) < ((i + 1 : Nat) : Int); omega, by show ((i + 1 : Nat) : Int) < _; omega⟩ ?_
      rw [show (r.length : Int) / ((i + 1 : Nat) : Int) = ((r.length / (i + 1) : Nat) : Int) from rfl]
      have hq : r.length / (i + 1) ≤ 1000 := Nat.le_trans (Nat.div_le_self _ _) lr
      refine r_mulS (n := r.length / (i + 1)) ?_ (by omega) ?_
      · rw [List.length_take]
        have : min (i + 1) r.length * (r.length / (i + 1)) ≤ 1000 * 1000 := Nat.mul_le_mul (by omega) hq
        omega
      walk_at "r"
      have ck := ring_check (r := r) (d := i + 1) (by omega) (by omega)
      refine r_dec (fun h => ?_) (fun h => ?_)
      · have hc := (ck.mp (S_iff.mp h)).1
        have : p ≤ i + 1 := m.ring _ (by omega) hc
        obtain rfl : p = i + 1 := by omega
        walk_at "r"
        refine r_slS (l := r) (by omega) ?_
        rw [cut_take]
        exact q _ m
      · walk_at "r"
        refine ⟨_, rfl, rfl, ?_⟩
        by_cases e : p = i + 1
        · subst e
          exact absurd (S_iff.mpr (ck.mpr ⟨m.per, dv⟩)) h
        · omega
    · rintro σ H' ⟨y, rfl, rfl, hip⟩
      walk_at "r"
      have e : p = r.length := by omega
      have := q _ m
      rw [e, List.take_length] at this
      exact this
def sp_least_form (K : PySem.W.Frag) : Sp := fun vs H Q _ => ∃ h r : List Nat, vs = [.str (S h), .str (S r)] ∧ 0 < r.length ∧ r.length ≤ 1000 ∧ h.length ≤ 1000 ∧ ∀ a b, Least h r a b → ∀ t, H t = none → Q (.ref t) (upd H t (.tup [.str (S a), .str (S b)]))
theorem ok_least_form (T : Txt K mg) : Ok P w K mg base CX0 (2) "least_form" s_least_form ["head", "ring"] (sp_least_form K) := by
  obtain ⟨fd, D⟩ := T.d_least_form
  refine ⟨⟨_, fd, T.g_least_form, D, D.bindsN (fun _ _ _ _ _ _ us hl => match us, hl with | [_, _], _ => rfl), ?_⟩⟩
  refine D.ok sc_least_form (fun vs H Q E h => ?_) (fun cdv A outer s H vs Q E hr h => ?_)
  · obtain ⟨h, r, rfl, r0, lr, lh, q⟩ := h
    rfl
  · obtain ⟨h, r, rfl, r0, lr, lh, q⟩ := h
    have F_shortest_ring := ok_shortest_ring (P := P) (w := w) (K := K) (mg := mg) (base := base) T
    refine ⟨_, PSs.nox (pss_cons (ps_set (i := 1) sc_least_form.nd rfl (by first | exact Or.inl rfl | exact Or.inr rfl) (pe_cl F_shortest_ring hr (by rfl) pass0 (pa_cons (pv 1) pa_nil)))
      (pss_cons (ps_while PassesOwn.never (PW.pt (pw_and (pt_cmpR op_ne (pv 0) (pe_strS [] (by rfl)) (nomark _)) (pw_and1 (pt_cmpR op_eq (pe_ix ix_str (pv 0) (pe_un un_neg pe_int) (fun _ _ => rfl)) (pe_ix ix_str (pv 1) (pe_un un_neg pe_int) (fun _ _ => rfl)) (nomark _))))) (pss_cons (ps_set (i := 0) sc_least_form.nd rfl (by first | exact Or.inl rfl | exact Or.inr rfl) (pe_slice sl_str (pv 0) po_none (po_some (pe_un un_neg pe_int))))
      (pss_one (ps_set (i := 1) sc_least_form.nd rfl (by first | exact Or.inl rfl | exact Or.inr rfl) (pe_op o_addS (pe_ix ix_str (pv 1) (pe_un un_neg pe_int) (fun _ _ => rfl)) (pe_slice sl_str (pv 1) po_none (po_some (pe_un un_neg pe_int))))))))
      (pss_one (ps_ret (pe_tup (pa_cons (pv 0) (pa_cons (pv 1) pa_nil))))))), ?_⟩
    walk_at "r"
    refine ⟨r, rfl, r0, lr, fun p m => ?_⟩
    walk_at "r"
    have hpr := short_pos r0 m
    refine ⟨fun k σ H' => ∃ a b : List Nat, σ = [some (.str (S a)), some (.str (S b))] ∧ H' = H ∧ LInv (rw h r) a b ∧ a.length = k ∧ a.length ≤ 1000 ∧ b.length ≤ 1000, ⟨h.length, h, r.take p, rfl, rfl, linv_start r0 m, rfl, lh, by rw [List.length_take]; omega⟩, ?_⟩
    rintro k σ H' ⟨a, b, rfl, rfl, v, rfl, la, lb⟩
    walk_at "r"
    have fin : (a = [] ∨ ∃ a' b' x y, a = a' ++ [x] ∧ b = b' ++ [y] ∧ x ≠ y) → tRet (tTup (tCons (tVar 0) (tCons (tVar 1) tNil))) { nx := fun _ H' => Q .non H', rt := Q } [some (V.str (S a)), some (V.str (S b))] H' := fun e => by
      walk_at "r"
      exact ⟨by show 2 ≤ sizeLine; decide, q a b (Least.of v e)⟩
    refine r_ndec (fun e0 => ?_) (fun e0 => ?_)
    · have ha : 0 < a.length := Nat.pos_of_ne_zero fun z => e0 (by rw [List.eq_nil_of_length_eq_zero z])
      obtain ⟨a, x, rfl⟩ := snoc_of ha
      obtain ⟨b, y, rfl⟩ := snoc_of v.pos
      walk_at "r"
      refine r_ixS (by omega) (atI_neg a x) ?_
      walk_at "r"
      refine r_ixS (by omega) (atI_neg b y) ?_
      walk_at "r"
      refine r_dec (fun e1 => ?_) (fun e1 => ?_)
      · obtain rfl : x = y := by simpa using S_iff.mp e1
        refine ⟨fun σ' H2 => σ' = [some (.str (S a)), some (.str (S (x :: b)))] ∧ H2 = H', ?_, ?_⟩
        · rintro σ' H2 ⟨rfl, rfl⟩
          simp only [List.length_append, List.length_cons, List.length_nil] at la lb
          exact ⟨a.length, by rw [List.length_append]; simp, a, x :: b, rfl, rfl, linv_step v, rfl, by omega, by rw [List.length_cons]; omega⟩
        · walk_at "r"
          refine r_slS (by omega) ?_
          rw [cut_last]
          walk_at "r"
          refine r_ixS (by omega) (atI_neg b x) ?_
          walk_at "r"
          refine r_slS (by omega) ?_
          rw [cut_last]
          simp only [List.length_append, List.length_cons, List.length_nil] at lb
          refine r_addS (by simp; omega) ?_
          exact ⟨rfl, rfl⟩
      · exact fin (.inr ⟨a, b, x, y, rfl, rfl, fun z => e1 (by rw [z])⟩)
    · exact fin (.inl (S_iff.mp e0))
def sp_first_letters (K : PySem.W.Frag) : Sp := fun vs H Q _ => ∃ (t : Addr) (h r : List Nat) (n : Nat), vs = [.ref t, .int n] ∧ LossAt K H t h r ∧ n ≤ 1000 ∧ Q (.str (S (seg (rw h r) 0 n))) H
theorem ok_first_letters (T : Txt K mg) : Ok P w K mg base CX0 (1) "first_letters" s_first_letters ["loss", "many"] (sp_first_letters K) := by
  obtain ⟨fd, D⟩ := T.d_first_letters
  refine ⟨⟨_, fd, T.g_first_letters, D, D.bindsN (fun _ _ _ _ _ _ us hl => match us, hl with | [_, _], _ => rfl), ?_⟩⟩
  refine D.ok sc_first_letters (fun vs H Q E h => ?_) (fun cdv A outer s H vs Q E hr h => ?_)
  · obtain ⟨t, h, r, n, rfl, hL, hn, q⟩ := h
    rfl
  · obtain ⟨t, h, r, n, rfl, hL, hn, q⟩ := h
    refine ⟨_, PSs.nox (pss_cons (ps_asg (pv 0) (pg_tup rfl (pgs_cons (pg_name (i := 2) sc_first_letters.nd rfl (by first | exact Or.inl rfl | exact Or.inr rfl)) (pgs_cons (pg_name (i := 3) sc_first_letters.nd rfl (by first | exact Or.inl rfl | exact Or.inr rfl)) pgs_nil))))
      (pss_one (ps_ret (pe_slice sl_str (pe_op o_addS (pv 2) (pe_op op_mul_str (pv 3) (pv 1))) po_none (po_some (pv 1)))))), ?_⟩
    obtain ⟨hT, wh, wr, lh, lr, r0⟩ := hL
    walk_at "r"
    refine r_gTup hT rfl ?_
    walk_at "r"
    have hz : r.length * n ≤ 200 * 1000 := Nat.mul_le_mul lr hn
    refine r_mulS (n := n) (by omega) (by omega) ?_
    have hf := rep_len_mul n r
    rw [Nat.mul_comm] at hf
    refine r_addS (by omega) ?_
    walk_at "r"
    refine r_slS (by rw [List.length_append]; omega) ?_
    rw [cut_take, letters_seg r0 (by
      have : n * 1 ≤ n * r.length := Nat.mul_le_mul_left _ r0
      omega)]
    exact q

/-- what is wished where the loss x is none -/
abbrev NoLoss (K : PySem.W.Frag) (H : Hp) (d : PyData) (x : V) (E : XK) : Prop := lossD d = false → ∀ H' e, Same H H' → H e = none → H' e = some (.xd [("value", x)]) → E (.ref (He.ga K "BadLoss")) (some e) H'
def sp_least (K : PySem.W.Frag) : Sp := fun vs H Q E => ∃ (x : V) (d : PyData) (z0 : Addr), vs = [x] ∧ Dat K z0 H d x ∧ cap d ≤ 1000000 ∧ (lossD d = true → ∀ a b H' u, Same H H' → H' u = some (.tup [.str (S a), .str (S b)]) → Wd a → Wd b → Q (.ref u) H') ∧ NoLoss K H d x E
theorem ok_least (T : Txt K mg) : Ok P w K mg base (L2.CX P w) (5) "least" s_least ["loss"] (sp_least K) := by
  obtain ⟨fd, D⟩ := T.d_least
  refine ⟨⟨_, fd, T.g_least, D, D.bindsN (fun _ _ _ _ _ _ us hl => match us, hl with | [_], _ => rfl), ?_⟩⟩
  refine D.ok sc_least (fun vs H Q E h => ?_) (fun cdv A outer s H vs Q E hr h => ?_)
  · obtain ⟨x, d, z0, rfl, hd, hc, q1, q2⟩ := h
    rfl
  · obtain ⟨x, d, z0, rfl, hd, hc, q1, q2⟩ := h
    have F_need_loss := ok_need_loss (P := P) (w := w) (K := K) (mg := mg) (base := base) T
    have F_least_form := ok_least_form (P := P) (w := w) (K := K) (mg := mg) (base := base) T
    refine ⟨_, (pss_cons (ps_expr (pe_cl F_need_loss hr (by rfl) (passes_call (takes_of rfl rfl rfl rfl) fun _ _ _ _ h => h) (pa_cons (pv 0) pa_nil)))
      (pss_cons (ps_asg (pv 0) (pg_tup rfl (pgs_cons (pg_name (i := 1) sc_least.nd rfl (by first | exact Or.inl rfl | exact Or.inr rfl)) (pgs_cons (pg_name (i := 2) sc_least.nd rfl (by first | exact Or.inl rfl | exact Or.inr rfl)) pgs_nil))))
      (pss_one (ps_ret (pe_cl F_least_form hr (by rfl) pass0 (pa_cons (pv 1) (pa_cons (pv 2) pa_nil))))))), ?_⟩
    walk_at "r"
    refine ⟨x, d, z0, rfl, hd, hc, fun hw H1 e1 => ?_, q2⟩
    obtain ⟨t, h, r, rfl, hL⟩ := lossAt_of hw hd
    obtain ⟨hT, wh, wr, lh, lr, r0⟩ := hL
    walk_at "r"
    refine r_gTup (Same.sqt e1 hT) rfl ?_
    walk_at "r"
    refine ⟨h, r, rfl, r0, by omega, by omega, fun a b l u hu => ?_⟩
    obtain ⟨wa, wb⟩ := l.wd r0 wh wr
    exact q1 hw a b _ u (e1.trans (same_new hu)) upd_same wa wb
def sp_are_alike (K : PySem.W.Frag) : Sp := fun vs H Q E => ∃ (x y : V) (d e : PyData) (z0 : Addr), vs = [x, y] ∧ Dat K z0 H d x ∧ cap d ≤ 1000000 ∧ Dat K z0 H e y ∧ cap e ≤ 1000000 ∧ (lossD d = true → lossD e = true → ∀ k H', Same H H' → Q (.bl k) H') ∧ NoLoss K H d x E ∧ (lossD d = true → NoLoss K H e y E)
theorem ok_are_alike (T : Txt K mg) : Ok P w K mg base (L2.CX P w) (6) "are_alike" s_are_alike ["one", "other"] (sp_are_alike K) := by
  obtain ⟨fd, D⟩ := T.d_are_alike
  refine ⟨⟨_, fd, T.g_are_alike, D, D.bindsN (fun _ _ _ _ _ _ us hl => match us, hl with | [_, _], _ => rfl), ?_⟩⟩
  refine D.ok sc_are_alike (fun vs H Q E h => ?_) (fun cdv A outer s H vs Q E hr h => ?_)
  · obtain ⟨x, y, d, e, z0, rfl, hd, hc, he, hc2, q1, q2, q3⟩ := h
    rfl
  · obtain ⟨x, y, d, e, z0, rfl, hd, hc, he, hc2, q1, q2, q3⟩ := h
    have F_least := ok_least (P := P) (w := w) (K := K) (mg := mg) (base := base) T
    refine ⟨_, (pss_one (ps_ret (pe_cmpR (op_eqD hr.units) (pe_cl F_least hr (by rfl) (passes_call (takes_of rfl rfl rfl rfl) fun _ _ _ _ h => h) (pa_cons (pv 0) pa_nil)) (pe_cl F_least hr (by rfl) (passes_call (takes_of rfl rfl rfl rfl) fun _ _ _ _ h => h) (pa_cons (pv 1) pa_nil)) (nomark _)))), ?_⟩
    walk_at "r"
    refine ⟨x, d, z0, rfl, hd, hc, fun hw a b H1 u e1 f1 wa wb => ?_, q2⟩
    walk_at "r"
    refine ⟨y, e, z0, rfl, dat_same e1 he, hc2, fun hw2 a2 b2 H2 u2 e2 f2 wa2 wb2 => ?_, fun hw2 H' p e2 hp f => q3 hw hw2 H' p (e1.trans e2) (e1.free hp) f⟩
    exact r_eqSS (SqT.of (e2 _ _ f1)) (SqT.of f2) wa wb wa2 wb2 (q1 hw hw2 _ _ (e1.trans e2))
def sp_letters_of (K : PySem.W.Frag) : Sp := fun vs H Q E => ∃ (x y : V) (d e : PyData) (z0 : Addr), vs = [x, y] ∧ Dat K z0 H d x ∧ cap d ≤ 1000000 ∧ Dat K z0 H e y ∧ (lossD d = true → (∃ i, e = .int i ∧ 0 ≤ i ∧ i ≤ 200) → ∀ k H', Same H H' → Q k H') ∧ NoLoss K H d x E ∧
  (lossD d = true → (∀ i, e = .int i → ¬ (0 ≤ i ∧ i ≤ 200)) → ∀ H' p, Same H H' → H p = none → H' p = some (.xd [("value", y)]) → E (.ref (He.ga K "BadNumber")) (some p) H')
theorem ok_letters_of (T : Txt K mg) : Ok P w K mg base (L2.CX P w) (5) "letters_of" s_letters_of ["loss", "many"] (sp_letters_of K) := by
  obtain ⟨fd, D⟩ := T.d_letters_of
  refine ⟨⟨_, fd, T.g_letters_of, D, D.bindsN (fun _ _ _ _ _ _ us hl => match us, hl with | [_, _], _ => rfl), ?_⟩⟩
  refine D.ok sc_letters_of (fun vs H Q E h => ?_) (fun cdv A outer s H vs Q E hr h => ?_)
  · obtain ⟨x, y, d, e, z0, rfl, hd, hc, he, q1, q2, q3⟩ := h
    rfl
  · obtain ⟨x, y, d, e, z0, rfl, hd, hc, he, q1, q2, q3⟩ := h
    have F_need_loss := ok_need_loss (P := P) (w := w) (K := K) (mg := mg) (base := base) T
    have F_need_number := ok_need_number (P := P) (w := w) (K := K) (mg := mg) (base := base) T
    have F_first_letters := ok_first_letters (P := P) (w := w) (K := K) (mg := mg) (base := base) T
    refine ⟨_, (pss_cons (ps_expr (pe_cl F_need_loss hr (by rfl) (passes_call (takes_of rfl rfl rfl rfl) fun _ _ _ _ h => h) (pa_cons (pv 0) pa_nil)))
      (pss_cons (ps_expr (pe_cl F_need_number hr (by rfl) (passes_call (takes_of rfl rfl rfl rfl) fun _ _ _ _ h => h) (pa_cons (pv 1) (pa_cons (pe_gint (by rfl) T.c_MOST_FATES) pa_nil))))
      (pss_one (ps_ret (pe_cl F_first_letters hr (by rfl) pass0 (pa_cons (pv 0) (pa_cons (pv 1) pa_nil))))))), ?_⟩
    walk_at "r"
    refine ⟨x, d, z0, rfl, hd, hc, fun hw H1 e1 => ?_, q2⟩
    walk_at "r"
    refine ⟨y, e, z0, 200, rfl, dat_same e1 he, fun hi => ?_, fun hi H' p e2 hp f => q3 hw hi H' p (e1.trans e2) (e1.free hp) f⟩
    obtain ⟨t, h, r, rfl, hL⟩ := lossAt_of hw hd
    have hi' := hi
    obtain ⟨i, rfl, i0, i1⟩ := hi
    unfold Dat at he
    obtain ⟨rfl, _⟩ := he
    obtain ⟨n, rfl⟩ := Int.eq_ofNat_of_zero_le i0
    walk_at "r"
    exact ⟨t, h, r, n, rfl, hL.same e1, by omega, q1 hw hi' _ _ e1⟩
def sp_tail (K : PySem.W.Frag) : Sp := fun vs H Q E => ∃ (x : V) (d : PyData) (z0 : Addr), vs = [x] ∧ Dat K z0 H d x ∧ cap d ≤ 1000000 ∧ (lossD d = true → ∀ k H', Same H H' → Q k H') ∧ NoLoss K H d x E
theorem ok_tail (T : Txt K mg) : Ok P w K mg base (L2.CX P w) (5) "tail" s_tail ["loss"] (sp_tail K) := by
  obtain ⟨fd, D⟩ := T.d_tail
  refine ⟨⟨_, fd, T.g_tail, D, D.bindsN (fun _ _ _ _ _ _ us hl => match us, hl with | [_], _ => rfl), ?_⟩⟩
  refine D.ok sc_tail (fun vs H Q E h => ?_) (fun cdv A outer s H vs Q E hr h => ?_)
  · obtain ⟨x, d, z0, rfl, hd, hc, q1, q2⟩ := h
    rfl
  · obtain ⟨x, d, z0, rfl, hd, hc, q1, q2⟩ := h
    have F_need_loss := ok_need_loss (P := P) (w := w) (K := K) (mg := mg) (base := base) T
    have F_shortest_ring := ok_shortest_ring (P := P) (w := w) (K := K) (mg := mg) (base := base) T
    refine ⟨_, (pss_cons (ps_expr (pe_cl F_need_loss hr (by rfl) (passes_call (takes_of rfl rfl rfl rfl) fun _ _ _ _ h => h) (pa_cons (pv 0) pa_nil)))
      (pss_cons (ps_set (i := 1) sc_tail.nd rfl (by first | exact Or.inl rfl | exact Or.inr rfl) (pe_cl F_shortest_ring hr (by rfl) pass0 (pa_cons (pe_ix ix_tup (pv 0) pe_int (fun _ _ => rfl)) pa_nil)))
      (pss_one (ps_ret (pe_ifExp (pt_cmpR op_in_seq (pv 1) (pe_tup (pa_cons (pe_strS [102] (by rfl)) (pa_cons (pe_strS [115] (by rfl)) pa_nil))) (by rfl)) (pv 1) (pe_strS [102, 97, 105, 114] (by rfl))))))), ?_⟩
    walk_at "r"
    refine ⟨x, d, z0, rfl, hd, hc, fun hw H1 e1 => ?_, q2⟩
    obtain ⟨t, h, r, rfl, hL⟩ := lossAt_of hw hd
    obtain ⟨hT, wh, wr, lh, lr, r0⟩ := hL
    walk_at "r"
    refine r_ixT (Same.sqt e1 hT) rfl ?_
    walk_at "r"
    refine ⟨r, rfl, r0, by omega, fun p m => ?_⟩
    walk_at "r"
    refine ⟨by show 2 ≤ sizeLine; decide, fun p1 hp1 => r_in2 (SqT.of upd_same) ?_⟩
    have q3 := fun k => q1 hw k _ (e1.trans (same_new hp1 (o := .tup [.str (S [102]), .str (S [115])])))
    cases (decide (r.take p = [102]) || decide (r.take p = [115])) with
    | true =>
      walk_at "r"
      exact q3 _
    | false =>
      walk_at "r"
      exact q3 _
def sp_shifted (K : PySem.W.Frag) : Sp := fun vs H Q E => ∃ (x y : V) (d e : PyData) (z0 : Addr), vs = [x, y] ∧ Dat K z0 H d x ∧ cap d ≤ 1000000 ∧ Dat K z0 H e y ∧ cap e ≤ 1000000 ∧ (lossD d = true → wdD 0 200 e = true → (∀ k H', Same H H' → Q k H') ∧ ∀ v H' p, Same H H' → H p = none → H' p = some (.xd [("value", v)]) → E (.ref (He.ga K "TooLong")) (some p) H') ∧ NoLoss K H d x E ∧
  (lossD d = true → wdD 0 200 e = false → ∀ H' p, Same H H' → H p = none → H' p = some (.xd [("value", y)]) → E (.ref (He.ga K "BadWord")) (some p) H')
theorem ok_shifted (T : Txt K mg) : Ok P w K mg base (L2.CX P w) (5) "shifted" s_shifted ["loss", "word"] (sp_shifted K) := by
  obtain ⟨fd, D⟩ := T.d_shifted
  refine ⟨⟨_, fd, T.g_shifted, D, D.bindsN (fun _ _ _ _ _ _ us hl => match us, hl with | [_, _], _ => rfl), ?_⟩⟩
  refine D.ok sc_shifted (fun vs H Q E h => ?_) (fun cdv A outer s H vs Q E hr h => ?_)
  · obtain ⟨x, y, d, e, z0, rfl, hd, hc, he, hc2, q1, q2, q3⟩ := h
    rfl
  · obtain ⟨x, y, d, e, z0, rfl, hd, hc, he, hc2, q1, q2, q3⟩ := h
    have F_need_loss := ok_need_loss (P := P) (w := w) (K := K) (mg := mg) (base := base) T
    have F_need_word := ok_need_word (P := P) (w := w) (K := K) (mg := mg) (base := base) T
    have F_least_form := ok_least_form (P := P) (w := w) (K := K) (mg := mg) (base := base) T
    refine ⟨_, (pss_cons (ps_expr (pe_cl F_need_loss hr (by rfl) (passes_call (takes_of rfl rfl rfl rfl) fun _ _ _ _ h => h) (pa_cons (pv 0) pa_nil)))
      (pss_cons (ps_expr (pe_cl F_need_word hr (by rfl) (passes_call (takes_of rfl rfl rfl rfl) fun _ _ _ _ h => h) (pa_cons (pv 1) pa_nil)))
      (pss_cons (ps_asg (pe_cl F_least_form hr (by rfl) pass0 (pa_cons (pe_op o_addS (pv 1) (pe_ix ix_tup (pv 0) pe_int (fun _ _ => rfl))) (pa_cons (pe_ix ix_tup (pv 0) pe_int (fun _ _ => rfl)) pa_nil))) (pg_tup rfl (pgs_cons (pg_name (i := 2) sc_shifted.nd rfl (by first | exact Or.inl rfl | exact Or.inr rfl)) (pgs_cons (pg_name (i := 3) sc_shifted.nd rfl (by first | exact Or.inl rfl | exact Or.inr rfl)) pgs_nil))))
      (pss_cons (ps_if (pt_cmpR op_gt (pe_callB k_lnS (by rfl) T.z_len (by decide +kernel) (pa_cons (pv 2) pa_nil)) (pe_gint (by rfl) T.c_MOST_FATES) (nomark _))
        (pss_one (ps_err T.e_TooLong (ok_errI T) T.g_TooLong hr rfl (takes_of rfl rfl rfl rfl) (by rfl) (pe_callB k_lnS (by rfl) T.z_len (by decide +kernel) (pa_cons (pv 2) pa_nil))))
        pss_nil)
      (pss_one (ps_ret (pe_tup (pa_cons (pv 2) (pa_cons (pv 3) pa_nil))))))))), ?_⟩
    walk_at "r"
    refine ⟨x, d, z0, rfl, hd, hc, fun hw H1 e1 => ?_, q2⟩
    walk_at "r"
    refine ⟨y, e, z0, rfl, dat_same e1 he, hc2, fun hv H2 e2 => ?_, fun hv H' p e2 hp f => q3 hw hv H' p (e1.trans e2) (e1.free hp) f⟩
    obtain ⟨q4, q5⟩ := q1 hw hv
    obtain ⟨t, h, r, rfl, hL⟩ := lossAt_of hw hd
    obtain ⟨hT, wh, wr, lh, lr, r0⟩ := hL
    obtain ⟨w, rfl, rfl⟩ := wdD_val hv he
    obtain ⟨ww, _, lw⟩ := wdD_true hv
    have e12 := e1.trans e2
    have hT2 := Same.sqt e12 hT
    walk_at "r"
    refine r_ixT hT2 rfl ?_
    refine r_addS (by omega) ?_
    walk_at "r"
    refine r_ixT hT2 rfl ?_
    walk_at "r"
    refine ⟨w ++ h, r, rfl, r0, by omega, by rw [List.length_append]; omega, fun a b l u hu => ?_⟩
    have la := (l.bound r0).1
    rw [List.length_append] at la
    have e3 := e12.trans (same_new hu (o := .tup [.str (S a), .str (S b)]))
    refine r_gTup (SqT.of upd_same) rfl ?_
    walk_at "r"
    refine r_lnT (l := a) (by omega) ?_
    walk_at "r"
    refine r_dec (fun c => ?_) (fun c => ?_)
    · refine r_rz ?_
      walk_at "r"
      refine r_lnT (l := a) (by omega) ?_
      walk_at "r"
      exact err_of T.e_TooLong fun p hp => q5 _ _ p (e3.trans (same_new hp)) (e3.free hp) upd_same
    · walk_at "r"
      exact ⟨by show 2 ≤ sizeLine; decide, fun v hv => q4 _ _ (e3.trans (same_new hv))⟩

def spHeard (K : PySem.W.Frag) : SpT := fun tl f c' q vs H Q _ => vs = [.ref f] ∧ H c' = some (CodeO c' q) ∧ ∀ (H0 : Hp) (E' : XK) (Q' : VK), Same H H0 →
  (∀ (C dd : Addr) (fs : List (Str × V)) (H1 : Hp), H1 dd = some (.xd fs) → PySem.W.exmOne K (.ref C) (.ref (He.ga K "PlayError")) = some true → (∀ a H2 p, H1 a = none → Same H1 H2 → H2 a = some (ExcV (.ref C) (some dd) a) → H2 p = none → Q (.ref p) (upd H2 p (.tup [.ref a, .non]))) → E' (.ref C) (some dd) H1) →
  (∀ (v : V) (H1 : Hp), (∀ p, H1 p = none → Q (.ref p) (upd H1 p (.tup [.non, v]))) → Q' v H1) → tl E' H0 Q'
theorem hlen_Lheard {tl : XK → Hp → VK → Prop} {g c' : Addr} {q : Str} (vs : List V) (H : Hp) (Q : VK) (E : XK) (h : spHeard K tl g c' q vs H Q E) : vs.length = ["call"].length := by
  obtain ⟨rfl, _⟩ := h
  rfl
theorem ok_Lheard (T : Txt K mg) : OkT P w K mg base CX0 (fun _ => True) 14 12 "_law_heard" s_Lheard ["call"] (spHeard K) := by
  obtain ⟨fd, D⟩ := T.d_Lheard
  refine okT_of T.g__law_heard D (D.bindsN (fun _ _ _ _ _ _ us hl => match us, hl with | [_], _ => rfl)) sc_Lheard fun cdv A outer s H vs Q E q f c' tl _ TH hr h => ?_
  obtain ⟨rfl, hc, h⟩ := h
  refine ⟨_, PSs.nox (pss_cons (ps_asg (pe_tup (pa_cons pe_non (pa_cons pe_non pa_nil))) (pg_tup rfl (pgs_cons (pg_name (i := 2) sc_Lheard.nd rfl (Or.inl rfl)) (pgs_cons (pg_name (i := 3) sc_Lheard.nd rfl (Or.inl rfl)) pgs_nil))))
    (pss_cons (ps_try_asV (i := 1) (tb := fun W => tAsg (tThk 0 f c' q tl (WE W)) (gName 3)) rfl rfl rfl sc_Lheard.nd rfl rfl (by rfl) T.g_PlayError (by decide) takes0
      (fun W pn xe tk => pss_one (ps_set (i := 3) sc_Lheard.nd rfl (Or.inl rfl) (pe_thk TH rfl hr (fun σ => passAt tk σ) rfl (Or.inl rfl) (by decide))))
      (fun a oe cls d pn => pss_one (ps_set (i := 2) sc_Lheard.nd rfl (Or.inl rfl) (pv 1))))
    (pss_one (ps_ret (pe_tup (pa_cons (pv 2) (pa_cons (pv 3) pa_nil))))))), ?_⟩
  walk_at "r"
  refine ⟨by show 2 ≤ sizeLine; decide, fun p0 hp0 => ?_⟩
  walk_at "r"
  refine r_gTup (SqT.of upd_same) rfl ?_
  walk_at "r"
  have e0 := same_new hp0 (o := .tup [.non, .non])
  refine r_thk rfl (e0 _ _ hc) ?_
  refine h _ _ _ e0 (fun C dd fs H1 hd hx q => ?_) fun v H1 q => ?_
  · refine ⟨true, hx, fun _ a ha => ?_, fun z => nomatch z⟩
    walk_at "r"
    refine r_endV ?_
    walk_at "r"
    exact ⟨by show 2 ≤ sizeLine; decide, fun p hp => q a _ p ha (same_new ha) upd_same hp⟩
  · walk_at "r"
    exact ⟨by show 2 ≤ sizeLine; decide, q⟩

def sp_Lis_int (K : PySem.W.Frag) : Sp := fun vs H Q _ => ∃ (x : V) (d : PyData) (z0 : Addr) (lo hi : Int), vs = [x, .int lo, .int hi] ∧ Dat K z0 H d x ∧ ∀ k : Bool, (k = true ↔ ∃ i, d = .int i ∧ lo ≤ i ∧ i ≤ hi) → Q (.bl k) H
theorem ok_Lis_int (T : Txt K mg) : Ok P w K mg base CX0 (1) "_law_is_int" s_Lis_int ["value", "low", "high"] (sp_Lis_int K) := by
  obtain ⟨fd, D⟩ := T.d_Lis_int
  refine ⟨⟨_, fd, T.g__law_is_int, D, D.bindsN (fun _ _ _ _ _ _ us hl => match us, hl with | [_, _, _], _ => rfl), ?_⟩⟩
  refine D.ok sc_Lis_int (fun vs H Q E h => ?_) (fun cdv A outer s H vs Q E hr h => ?_)
  · obtain ⟨x, d, z0, lo, hi, rfl, hd, q⟩ := h
    rfl
  · obtain ⟨x, d, z0, lo, hi, rfl, hd, q⟩ := h
    refine ⟨_, PSs.nox (pss_one (ps_ret (pe_and (pe_callB call_isi (by rfl) T.z_isinstance (by decide +kernel) (pa_cons (pv 0) (pa_cons (pe_bltn (v := .ty "int") (by rfl) T.z_int (by decide +kernel) rfl) pa_nil))) (pe_and (pe_not (pe_callB call_isi (by rfl) T.z_isinstance (by decide +kernel) (pa_cons (pv 0) (pa_cons (pe_bltn (v := .ty "bool") (by rfl) T.z_bool (by decide +kernel) rfl) pa_nil)))) (pe_one (pe_chain op_le op_le (pv 1) (pv 0) (pv 2))))))), ?_⟩
    walk_at "r"
    refine r_isiD hd (isint d) ?_
    walk_at "r"
    by_cases ht : datTy d = "int"
    · obtain ⟨i, rfl⟩ : ∃ i, d = .int i := by
        cases d with
        | int i => exact ⟨i, rfl⟩
        | _ => simp [datTy] at ht
      rw [decide_eq_true ht, Bool.true_or]
      walk_at "r"
      refine r_isiD hd (isbool _) ?_
      walk_at "r"
      unfold Dat at hd
      obtain ⟨rfl, _⟩ := hd
      rw [decide_eq_false (by simp [datTy] : ¬ datTy (.int i) = "bool")]
      walk_at "r"
      refine r_dec (fun h1 => ?_) (fun h1 => ?_)
      · walk_at "r"
        exact q _ ⟨fun h => ⟨i, rfl, h1, of_decide_eq_true h⟩, fun ⟨j, e, _, h2⟩ => by cases e; exact decide_eq_true h2⟩
      · exact q _ ⟨fun h => (nomatch h), fun ⟨j, e, h2, _⟩ => by cases e; exact absurd h2 h1⟩
    · have bad : ¬ ∃ i, d = .int i ∧ lo ≤ i ∧ i ≤ hi := fun ⟨i, e, _⟩ => by rw [e] at ht; simp [datTy] at ht
      rw [decide_eq_false ht, Bool.false_or]
      by_cases hb : datTy d = "bool"
      · rw [decide_eq_true hb]
        walk_at "r"
        refine r_isiD hd (isbool _) ?_
        walk_at "r"
        rw [decide_eq_true hb]
        walk_at "r"
        exact q _ ⟨fun h => (nomatch h), fun h => absurd h bad⟩
      · rw [decide_eq_false hb]
        walk_at "r"
        exact q _ ⟨fun h => (nomatch h), fun h => absurd h bad⟩
def sp_Llaw_is_word (K : PySem.W.Frag) : Sp := fun vs H Q _ => ∃ (x : V) (d : PyData) (z0 : Addr) (lo hi : Nat), vs = [x, .int lo, .int hi] ∧ Dat K z0 H d x ∧ cap d ≤ 1000000 ∧ ∀ H', Same H H' → Q (.bl (wdD lo hi d)) H'
theorem ok_Llaw_is_word (T : Txt K mg) : Ok P w K mg base CX0 (1) "_law_law_is_word" s_Llaw_is_word ["value", "low", "high"] (sp_Llaw_is_word K) := by
  obtain ⟨fd, D⟩ := T.d_Llaw_is_word
  refine ⟨⟨_, fd, T.g__law_law_is_word, D, D.bindsN (fun _ _ _ _ _ _ us hl => match us, hl with | [_, _, _], _ => rfl), ?_⟩⟩
  refine D.ok sc_Llaw_is_word (fun vs H Q E h => ?_) (fun cdv A outer s H vs Q E hr h => ?_)
  · obtain ⟨x, d, z0, lo, hi, rfl, hd, hc, q⟩ := h
    rfl
  · obtain ⟨x, d, z0, lo, hi, rfl, hd, hc, q⟩ := h
    refine ⟨_, PSs.nox (pss_one (ps_ret (pe_and (pe_callB call_isi (by rfl) T.z_isinstance (by decide +kernel) (pa_cons (pv 0) (pa_cons (pe_bltn (v := .ty "str") (by rfl) T.z_str (by decide +kernel) rfl) pa_nil))) (pe_and (pe_chain op_le op_le (pv 1) (pe_callB k_lnS (by rfl) T.z_len (by decide +kernel) (pa_cons (pv 0) pa_nil)) (pv 2)) (pe_one (pe_callB (cr_all rfl) (by rfl) T.z_all (by decide +kernel) (pa_cons (pe_lc (own := [("sign", 3)]) (g := gName 3) (tt := tYes) rfl sc_Llaw_is_word.nd (pi_str (pv 0)) (blkOk_by (N := ["value", "low", "high", "sign"]) (sc := defScope s_Llaw_is_word) (by decide +kernel)) (fun _ _ _ _ _ => (pg_name (i := 3) sc_Llaw_is_word.nd rfl (by first | exact Or.inl rfl | exact Or.inr rfl))) (fun _ _ _ _ _ => pts_nil) (fun _ _ _ _ _ => (pe_cmpR o_inC (pv 3) (pe_strS [110, 102, 115] (by rfl)) (by rfl)))) pa_nil))))))), ?_⟩
    walk_at "r"
    refine r_isiD hd (isstr d) ?_
    walk_at "r"
    by_cases ht : datTy d = "str"
    · obtain ⟨z, rfl⟩ := ty_str ht
      obtain ⟨l, rfl⟩ : ∃ l, z = S l := ⟨_, S_of z⟩
      have hl : l.length ≤ 100000 := by simp only [cap, S_len] at hc; omega
      unfold Dat at hd
      obtain ⟨rfl, _⟩ := hd
      refine r_yesD rfl ?_
      walk_at "r"
      refine r_lnT (l := l) (by omega) ?_
      walk_at "r"
      rw [wdD_S] at q
      refine r_dec (fun h1 => ?_) (fun h1 => ?_)
      · walk_at "r"
        refine r_dec (fun h2 => ?_) (fun h2 => ?_)
        · walk_at "r"
          refine ⟨_, rfl, fun D hD => lcS_test (l := l) (fun c => decide (c ∈ [110, 102, 115])) hD (by omega) (fun i c H' e e' R hR => ?_) fun H' e e' => ?_⟩
          · walk_at "r"
            refine ⟨rfl, ?_⟩
            walk_at "r"
            exact hR _ (Same.refl _)
          · walk_at "r"
            refine r_allB e' ?_
            have := q _ e
            rw [decide_eq_true (by omega : lo ≤ l.length), decide_eq_true (by omega : l.length ≤ hi), Bool.true_and, Bool.true_and] at this
            rw [List.all_map]
            exact this
        · have := q _ (Same.refl _)
          rw [decide_eq_false (by omega : ¬ l.length ≤ hi), Bool.false_and, Bool.and_false] at this
          walk_at "r"
          exact this
      · have := q _ (Same.refl _)
        rw [decide_eq_false (by omega : ¬ lo ≤ l.length), Bool.false_and] at this
        walk_at "r"
        exact this
    · rw [decide_eq_false ht]
      walk_at "r"
      have := q _ (Same.refl _)
      rw [wdD_str ht] at this
      exact this
def sp_Llaw_is_loss (K : PySem.W.Frag) : Sp := fun vs H Q _ => ∃ (x : V) (d : PyData) (z0 : Addr), vs = [x] ∧ Dat K z0 H d x ∧ cap d ≤ 1000000 ∧ ∀ H', Same H H' → Q (.bl (lossD d)) H'
theorem ok_Llaw_is_loss (T : Txt K mg) : Ok P w K mg base CX0 (2) "_law_law_is_loss" s_Llaw_is_loss ["value"] (sp_Llaw_is_loss K) := by
  obtain ⟨fd, D⟩ := T.d_Llaw_is_loss
  refine ⟨⟨_, fd, T.g__law_law_is_loss, D, D.bindsN (fun _ _ _ _ _ _ us hl => match us, hl with | [_], _ => rfl), ?_⟩⟩
  refine D.ok sc_Llaw_is_loss (fun vs H Q E h => ?_) (fun cdv A outer s H vs Q E hr h => ?_)
  · obtain ⟨x, d, z0, rfl, hd, hc, q⟩ := h
    rfl
  · obtain ⟨x, d, z0, rfl, hd, hc, q⟩ := h
    have F_Llaw_is_word := ok_Llaw_is_word (P := P) (w := w) (K := K) (mg := mg) (base := base) T
    refine ⟨_, PSs.nox (pss_cons (ps_if (PW.pt (pw_or (pt_not (pt_val (pe_callB call_isi (by rfl) T.z_isinstance (by decide +kernel) (pa_cons (pv 0) (pa_cons (pe_bltn (v := .ty "tuple") (by rfl) T.z_tuple (by decide +kernel) rfl) pa_nil))))) (pw_or1 (pt_cmpR op_ne (pe_callB k_lnQ (by rfl) T.z_len (by decide +kernel) (pa_cons (pv 0) pa_nil)) pe_int (nomark _)))))
        (pss_one (ps_ret pe_bl))
        pss_nil)
      (pss_one (ps_ret (pe_and (pe_cl F_Llaw_is_word hr (by rfl) pass0 (pa_cons (pe_ix ix_tup (pv 0) pe_int (fun _ _ => rfl)) (pa_cons pe_int (pa_cons pe_int pa_nil)))) (pe_one (pe_cl F_Llaw_is_word hr (by rfl) pass0 (pa_cons (pe_ix ix_tup (pv 0) pe_int (fun _ _ => rfl)) (pa_cons pe_int (pa_cons pe_int pa_nil))))))))), ?_⟩
    have bad : lossD d = false → Q (.bl false) H := fun h => by
      have := q _ (Same.refl _)
      rw [h] at this
      exact this
    walk_at "r"
    refine r_isiD hd (istup d) ?_
    walk_at "r"
    by_cases ht : datTy d = "tuple"
    · obtain ⟨ds, rfl⟩ := ty_tup ht
      unfold Dat at hd
      obtain ⟨a, xs, rfl, hS, hds⟩ := hd
      rw [decide_eq_true ht]
      walk_at "r"
      refine r_lnU hS ?_
      walk_at "r"
      have hlen := datL_len hds
      by_cases h2 : xs.length = 2
      · rw [decide_eq_true (by rw [h2]; rfl : V.int (xs.length : Int) = V.int 2)]
        walk_at "r"
        obtain ⟨d1, d2, rfl⟩ : ∃ d1 d2, ds = [d1, d2] := by
          match ds, hlen with
          | [d1, d2], _ => exact ⟨d1, d2, rfl⟩
          | [], h => simp at h; omega
          | [_], h => simp at h; omega
          | _ :: _ :: _ :: _, h => simp at h; omega
        obtain ⟨x1, x2, rfl, hd1, hd2⟩ := datL_two hds
        have c1 : cap d1 ≤ 1000000 ∧ cap d2 ≤ 1000000 := by simp only [cap, capL] at hc; omega
        refine r_ixT hS rfl ?_
        walk_at "r"
        refine ⟨x1, d1, z0, 0, 200, rfl, hd1, c1.1, fun H1 e1 => ?_⟩
        walk_at "r"
        cases w1 : wdD 0 200 d1 with
        | false =>
          have := q _ e1
          rw [show lossD (.tuple [d1, d2]) = false by simp [lossD, w1]] at this
          walk_at "r"
          exact this
        | true =>
          walk_at "r"
          refine r_ixT (Same.sqt e1 hS) rfl ?_
          walk_at "r"
          refine ⟨x2, d2, z0, 1, 200, rfl, dat_same e1 hd2, c1.2, fun H2 e2 => ?_⟩
          have := q _ (e1.trans e2)
          rw [show lossD (.tuple [d1, d2]) = wdD 1 200 d2 by simp [lossD, w1]] at this
          exact this
      · rw [decide_eq_false (fun z => h2 (by have := V.int.inj z; omega))]
        walk_at "r"
        refine bad ?_
        match ds, hlen with
        | [], _ => rfl
        | [_], _ => rfl
        | [_, _], h => exact absurd h.symm h2
        | _ :: _ :: _ :: _, _ => rfl
    · rw [decide_eq_false ht]
      walk_at "r"
      refine bad ?_
      cases d with
      | tuple ds => exact absurd rfl ht
      | _ => rfl

def sp_Llaw_word_drawn (K : PySem.W.Frag) : Sp := fun vs H Q _ => ∃ (a : Addr) (m : Nat) (c : Int), vs = [.ref a, .int m] ∧ PotAt H a c ∧ c ≤ 900000 ∧ m ≤ 100 ∧ ∀ H' l, But a H H' → PotAt H' a (c + 101) → Wd l → l.length ≤ m → Q (.str (S l)) H'
theorem ok_Llaw_word_drawn (T : Txt K mg) : Ok P w K mg base CX0 (3) "_law_law_word_drawn" s_Llaw_word_drawn ["pot", "most"] (sp_Llaw_word_drawn K) := by
  obtain ⟨fd, D⟩ := T.d_Llaw_word_drawn
  refine ⟨⟨_, fd, T.g__law_law_word_drawn, D, D.bindsN (fun _ _ _ _ _ _ us hl => match us, hl with | [_, _], _ => rfl), ?_⟩⟩
  refine D.ok sc_Llaw_word_drawn (fun vs H Q E h => ?_) (fun cdv A outer s H vs Q E hr h => ?_)
  · obtain ⟨a, m, c, rfl, hP, hc, hm, q⟩ := h
    rfl
  · obtain ⟨a, m, c, rfl, hP, hc, hm, q⟩ := h
    have F_Lof := ok_Lof (P := P) (w := w) (K := K) (mg := mg) (base := base) T
    have F_Ltake := ok_Ltake (P := P) (w := w) (K := K) (mg := mg) (base := base) T
    refine ⟨_, PSs.nox (pss_one (ps_ret (pe_jn (pe_strS [] (by rfl)) (pe_lc (own := [("lap", 2)]) (g := gName 2) (tt := tYes) rfl sc_Llaw_word_drawn.nd (pi_range1 (by rfl) T.z_range (pa_cons (pe_cl F_Ltake hr (by rfl) pass0 (pa_cons (pv 0) (pa_cons (pe_op op_add (pv 1) pe_int) pa_nil))) pa_nil)) (blkOk_by (N := ["pot", "most", "lap"]) (sc := defScope s_Llaw_word_drawn) (by decide +kernel)) (fun _ _ _ _ _ => (pg_name (i := 2) sc_Llaw_word_drawn.nd rfl (by first | exact Or.inl rfl | exact Or.inr rfl))) (fun _ _ _ _ _ => pts_nil) (fun _ _ _ _ _ => (pe_cl F_Lof hr (by rfl) pass0 (pa_cons (pv 0) (pa_cons (pe_callTy (call_list_txt rfl) (by rfl) T.z_list (by decide +kernel) (pa_cons (pe_strS [110, 102, 115] (by rfl)) pa_nil)) pa_nil)))))))), ?_⟩
    walk_at "r"
    refine ⟨⟨_, rfl⟩, ?_⟩
    walk_at "r"
    refine ⟨a, (m : Int) + 1, c, rfl, hP, by omega, by omega, by omega, fun H1 d b1 P1 d0 d1 => ?_⟩
    obtain ⟨n, rfl⟩ := Int.eq_ofNat_of_zero_le d0
    walk_at "r"
    refine ⟨_, rfl, by omega, by omega, fun D hD => ?_⟩
    refine lc_acc (n := n) (fun i G' => But a H1 G' ∧ PotAt G' a (c + 1 + i)) (fun _ v => ∃ c : Nat, v = .str (S [c]) ∧ (c = 110 ∨ c = 102 ∨ c = 115)) (by omega) ?_ (fun i G' acc acc' e h3 => ?_) (fun i G' hi e => hi) (fun G' e => Nat.le_refl _) ?_ ?_
    · exact ⟨But.of (same_new hD), (P1.new hD).mono (by omega)⟩
    · exact ⟨e.1.mut hD, e.2.ne (P1.fresh hD)⟩
    · rintro i v G' G2 acc hi ⟨e, Pe⟩ hacc ⟨rfl, rfl⟩ R hR
      walk_at "r"
      refine ⟨rfl, ?_⟩
      walk_at "r"
      refine r_listS (l := [110, 102, 115]) (by decide) fun p5 hp5 => ?_
      walk_at "r"
      refine ⟨a, p5, _, _, rfl, Pe.new hp5, by omega, SqL.of upd_same, Pe.fresh hp5, by decide, by decide, fun G3 x b P5 hx => ?_⟩
      have hDa : D ≠ a := P1.fresh hD
      exact hR _ _ (b _ _ hDa (same_new hp5 _ _ hacc)) (fate_of hx) ⟨(e.trans (But.of (same_new hp5))).trans b, P5.mono (by omega)⟩
    · rintro G' acc hl hv hacc ⟨e, Pe⟩
      obtain ⟨l, rfl, hwl, hll⟩ := chars_of hv
      refine r_joinC (SqL.of hacc) (by omega) ?_
      exact q _ _ (b1.trans e) (Pe.mono (by omega)) hwl (by omega)
def sp_Llaw_loss_drawn (K : PySem.W.Frag) : Sp := fun vs H Q _ => ∃ (a : Addr) (c : Int), vs = [.ref a] ∧ PotAt H a c ∧ c ≤ 900000 ∧ ∀ H' t h r, But a H H' → PotAt H' a (c + 102) → Wd h → h.length ≤ 4 → Wd r → 0 < r.length → r.length ≤ 3 → SqT K H' t [.str (S h), .str (S r)] → Q (.ref t) H'
theorem ok_Llaw_loss_drawn (T : Txt K mg) : Ok P w K mg base CX0 (4) "_law_law_loss_drawn" s_Llaw_loss_drawn ["pot"] (sp_Llaw_loss_drawn K) := by
  obtain ⟨fd, D⟩ := T.d_Llaw_loss_drawn
  refine ⟨⟨_, fd, T.g__law_law_loss_drawn, D, D.bindsN (fun _ _ _ _ _ _ us hl => match us, hl with | [_], _ => rfl), ?_⟩⟩
  refine D.ok sc_Llaw_loss_drawn (fun vs H Q E h => ?_) (fun cdv A outer s H vs Q E hr h => ?_)
  · obtain ⟨a, c, rfl, hP, hc, q⟩ := h
    rfl
  · obtain ⟨a, c, rfl, hP, hc, q⟩ := h
    have F_Llaw_word_drawn := ok_Llaw_word_drawn (P := P) (w := w) (K := K) (mg := mg) (base := base) T
    have F_Lof := ok_Lof (P := P) (w := w) (K := K) (mg := mg) (base := base) T
    refine ⟨_, PSs.nox (pss_cons (ps_set (i := 1) sc_Llaw_loss_drawn.nd rfl (by first | exact Or.inl rfl | exact Or.inr rfl) (pe_cl F_Llaw_word_drawn hr (by rfl) pass0 (pa_cons (pv 0) (pa_cons pe_int pa_nil))))
      (pss_cons (ps_set (i := 2) sc_Llaw_loss_drawn.nd rfl (by first | exact Or.inl rfl | exact Or.inr rfl) (pe_cl F_Lof hr (by rfl) pass0 (pa_cons (pv 0) (pa_cons (pe_lst (pa_cons (pe_strS [110] (by rfl)) (pa_cons (pe_strS [102] (by rfl)) (pa_cons (pe_strS [115] (by rfl)) (pa_cons (pe_strS [102, 115] (by rfl)) (pa_cons (pe_strS [110, 102] (by rfl)) (pa_cons (pe_strS [110, 115] (by rfl)) (pa_cons (pe_strS [115, 110] (by rfl)) (pa_cons (pe_strS [110, 102, 115] (by rfl)) (pa_cons (pe_strS [102, 102] (by rfl)) (pa_cons (pe_strS [115, 115] (by rfl)) (pa_cons (pe_strS [115, 115, 102] (by rfl)) (pa_cons (pe_strS [110, 110, 102] (by rfl)) pa_nil))))))))))))) pa_nil))))
      (pss_one (ps_ret (pe_tup (pa_cons (pv 1) (pa_cons (pv 2) pa_nil))))))), ?_⟩
    walk_at "r"
    refine ⟨a, 4, c, rfl, hP, hc, by decide, fun H1 l b1 P1 w1 l1 => ?_⟩
    walk_at "r"
    refine ⟨by decide, fun p hp => ?_⟩
    walk_at "r"
    have e1 := same_new (H := H1) hp (o := .lst [.str (S [110]), .str (S [102]), .str (S [115]), .str (S [102, 115]), .str (S [110, 102]), .str (S [110, 115]), .str (S [115, 110]), .str (S [110, 102, 115]), .str (S [102, 102]), .str (S [115, 115]), .str (S [115, 115, 102]), .str (S [110, 110, 102])])
    refine ⟨a, p, _, _, rfl, P1.new hp, by omega, SqL.of upd_same, P1.fresh hp, by decide, by decide, fun H2 x b2 P2 hx => ?_⟩
    have hx2 : ∃ r, x = .str (S r) ∧ Wd r ∧ 0 < r.length ∧ r.length ≤ 3 := by
      simp only [List.mem_cons, List.not_mem_nil, or_false] at hx
      rcases hx with rfl | rfl | rfl | rfl | rfl | rfl | rfl | rfl | rfl | rfl | rfl | rfl <;> exact ⟨_, rfl, by intro z hz; revert hz; revert z; decide, by decide, by decide⟩
    obtain ⟨r, rfl, w2, r0, r3⟩ := hx2
    walk_at "r"
    refine ⟨by show 2 ≤ sizeLine; decide, fun p2 hp2 => ?_⟩
    exact q _ _ _ _ (((b1.trans (But.of e1)).trans b2).trans (But.of (same_new hp2))) ((P2.new hp2).mono (by omega)) w1 l1 w2 r0 r3 (SqT.of upd_same)

def sp_Ldue (K : PySem.W.Frag) : Sp := fun vs H Q _ => ∃ (nm : List Nat) (b : Bool) (v : V), vs = [.str (S nm), .bl b, v] ∧ ∀ H' dl, Same H H' → H dl = none → (b = true → H' dl = some (.lst [])) → (b = false → ∃ t, H' dl = some (.lst [.ref t]) ∧ H' t = some (.tup [.str (S nm), v])) → Q (.ref dl) H'
theorem ok_Ldue (T : Txt K mg) : Ok P w K mg base CX0 (1) "_law_due" s_Ldue ["word", "is_right", "value"] (sp_Ldue K) := by
  obtain ⟨fd, D⟩ := T.d_Ldue
  refine ⟨⟨_, fd, T.g__law_due, D, D.bindsN (fun _ _ _ _ _ _ us hl => match us, hl with | [_, _, _], _ => rfl), ?_⟩⟩
  refine D.ok sc_Ldue (fun vs H Q E h => ?_) (fun cdv A outer s H vs Q E hr h => ?_)
  · obtain ⟨nm, b, v, rfl, q⟩ := h
    rfl
  · obtain ⟨nm, b, v, rfl, q⟩ := h
    refine ⟨_, PSs.nox (pss_one (ps_ret (pe_ifExp (pt_val (pv 1)) (pe_lst pa_nil) (pe_lst (pa_cons (pe_tup (pa_cons (pv 0) (pa_cons (pv 2) pa_nil))) pa_nil))))), ?_⟩
    walk_at "r"
    cases b with
    | true =>
      rw [if_pos rfl]
      walk_at "r"
      refine ⟨by decide, fun p hp => ?_⟩
      exact q _ _ (same_new hp) hp (fun _ => upd_same) (fun z => nomatch z)
    | false =>
      rw [if_neg (by decide)]
      walk_at "r"
      refine ⟨by show 2 ≤ sizeLine; decide, fun p hp => ?_⟩
      walk_at "r"
      refine ⟨by show 1 ≤ sizeLine; decide, fun p2 hp2 => ?_⟩
      have e2 := same_new hp2 (o := .lst [.ref p])
      exact q _ _ ((same_new hp).trans e2) ((same_new hp).free hp2) (fun z => nomatch z) (fun _ => ⟨p, upd_same, e2 _ _ upd_same⟩)

/-- the error's class by its word -/
def Kind (K : PySem.W.Frag) (nm : List Nat) (C : Addr) : Prop := (nm = [108, 111, 115, 115] ∧ C = He.ga K "BadLoss") ∨ (nm = [119, 111, 114, 100] ∧ C = He.ga K "BadWord") ∨ (nm = [110, 117, 109, 98, 101, 114] ∧ C = He.ga K "BadNumber")
/-- what is due: nothing, or first of all a word with the value v -/
def DueL (K : PySem.W.Frag) (H : Hp) (dl : Addr) (f : Option (List Nat × V)) : Prop := ∃ xs, SqL K H dl xs ∧ match f with
  | none => xs = []
  | some (nm, v) => ∃ t rest, xs = .ref t :: rest ∧ SqT K H t [.str (S nm), v]
def spRaised (K : PySem.W.Frag) : SpT := fun tl f c' q vs H Q _ => ∃ (dl : Addr) (mb : Bool) (fst : Option (List Nat × V)), vs = [.ref f, .ref dl, .bl mb] ∧ H c' = some (CodeO c' q) ∧ DueL K H dl fst ∧ (∀ H', Same H H' → Q (.bl true) H') ∧
  match fst with
  | none => ∀ (H0 : Hp) (E' : XK) (Q' : VK), Same H H0 → (mb = true → ∀ v H' p, Same H0 H' → H0 p = none → H' p = some (.xd [("value", v)]) → E' (.ref (He.ga K "TooLong")) (some p) H') → (∀ v H', Same H0 H' → Q' v H') → tl E' H0 Q'
  | some (nm, v) => ∃ (C : Addr) (d : PyData) (z0 : Addr), Kind K nm C ∧ Dat K z0 H d v ∧ cap d ≤ 1000000 ∧ d.depth ≤ 50 ∧ (d.hasDict = true → noList d = true) ∧
    ∀ (H0 : Hp) (E' : XK) (Q' : VK), Same H H0 → (∀ H' p, Same H0 H' → H0 p = none → H' p = some (.xd [("value", v)]) → E' (.ref C) (some p) H') → tl E' H0 Q'
theorem hlen_Lis_raised {tl : XK → Hp → VK → Prop} {g c' : Addr} {q : Str} (vs : List V) (H : Hp) (Q : VK) (E : XK) (h : spRaised K tl g c' q vs H Q E) : vs.length = ["call", "due", "may_be_long"].length := by
  obtain ⟨_, _, _, rfl, _⟩ := h
  rfl
theorem ok_Lis_raised (T : Txt K mg) : OkT P w K mg base CX0 Free 15 12 "_law_is_raised" s_Lis_raised ["call", "due", "may_be_long"] (spRaised K) := by
  obtain ⟨fd, D⟩ := T.d_Lis_raised
  refine okT_of T.g__law_is_raised D (D.bindsN (fun _ _ _ _ _ _ us hl => match us, hl with | [_, _, _], _ => rfl)) sc_Lis_raised fun cdv A outer s H vs Q E q f c' tl hgd TH hr h => ?_
  obtain ⟨dl, mb, fst, rfl, hco, ⟨xs, hdl, hx⟩, hq, hf⟩ := h
  have F_Lheard := ok_Lheard (P := P) (w := w) (K := K) (mg := mg) (base := base) T
  refine ⟨_, PSs.nox (pss_cons (ps_set (i := 3) sc_Lis_raised.nd rfl (by first | exact Or.inl rfl | exact Or.inr rfl) (pe_ix ix_tup (pe_clT F_Lheard trivial TH rfl hr (by rfl) pass0 (pa_cons (pv 0) pa_nil) (fun _ _ _ _ h => hlen_Lheard _ _ _ _ h)) pe_int (fun _ _ => rfl)))
    (pss_cons (ps_if (pt_cmpR (op_eqE hr.units) (pv 1) (pe_lst pa_nil) (nomark _))
      (pss_one (ps_ret (pe_or (pe_cmpR o_isN (pv 3) pe_non (nomark _)) (pe_one (pe_and (pv 2) (pe_one (pe_callB call_isX (by rfl) T.z_isinstance (by decide +kernel) (pa_cons (pv 3) (pa_cons (pe_glob (v := .ref _) (by rfl) T.g_TooLong rfl) pa_nil)))))))))
      pss_nil)
    (pss_cons (ps_set (i := 4) sc_Lis_raised.nd rfl (by first | exact Or.inl rfl | exact Or.inr rfl) (pe_disp (pps_cons (pe_strS [108, 111, 115, 115] (by rfl)) (pe_callB call_isX (by rfl) T.z_isinstance (by decide +kernel) (pa_cons (pv 3) (pa_cons (pe_glob (v := .ref _) (by rfl) T.g_BadLoss rfl) pa_nil))) (pps_cons (pe_strS [119, 111, 114, 100] (by rfl)) (pe_callB call_isX (by rfl) T.z_isinstance (by decide +kernel) (pa_cons (pv 3) (pa_cons (pe_glob (v := .ref _) (by rfl) T.g_BadWord rfl) pa_nil))) pps_nil)) (by rfl) (by rfl) (fun z => by cases z) (by decide)))
    (pss_cons (ps_expr (pe_bm PySem.F.plainAttrs_dict PySem.F.slot_dict_update PySem.F.type_dict_update mt_update (pv 4) (pa_cons (pe_disp (pps_cons (pe_strS [110, 117, 109, 98, 101, 114] (by rfl)) (pe_callB call_isX (by rfl) T.z_isinstance (by decide +kernel) (pa_cons (pv 3) (pa_cons (pe_glob (v := .ref _) (by rfl) T.g_BadNumber rfl) pa_nil))) pps_nil) (by rfl) (by rfl) (fun z => by cases z) (by decide)) pa_nil)))
    (pss_one (ps_ret (pe_and (pe_dget (hu_of hr) (pv 4) (pe_ix ix_tup (pe_ix ix_list (pv 1) pe_int (fun _ _ => rfl)) pe_int (fun _ _ => rfl)) (fun _ _ => rfl)) (pe_one (pe_cmpR op_eq (pe_callB (call_repr hgd hr) (by rfl) T.z_repr (by decide +kernel) (pa_cons (pe_xv (pv 3)) pa_nil)) (pe_callB (call_repr hgd hr) (by rfl) T.z_repr (by decide +kernel) (pa_cons (pe_ix ix_tup (pe_ix ix_list (pv 1) pe_int (fun _ _ => rfl)) pe_int (fun _ _ => rfl)) pa_nil)) (nomark _)))))))))), ?_⟩
  walk_at "r"
  refine ⟨rfl, hco, fun H0 E' Q' e0 fin1 fin2 => ?_⟩
  rcases fst with _ | ⟨nm, v⟩
  · obtain rfl := hx
    refine hf H0 E' Q' e0 (fun hm v H' p e' hn hp => ?_) fun v H' e' => ?_
    · refine fin1 _ p _ H' hp T.x_TooLong fun a H2 p2 ha e2 haE hp2 => ?_
      · clear fin1 fin2 hf
        have e3 := same_new hp2 (o := .tup [.ref a, .non])
        walk_at "r"
        refine r_ixT (SqT.of upd_same) rfl ?_
        walk_at "r"
        refine ⟨by decide, fun p4 hp4 => ?_⟩
        have e4 := same_new hp4 (o := .lst [])
        have e04 := e0.trans (e'.trans (e2.trans (e3.trans e4)))
        refine ⟨dl, p4, [], rfl, rfl, e04.seq hdl, SqL.of upd_same, true, rfl, ?_⟩
        rw [if_pos rfl]
        walk_at "r"
        rw [if_neg (by simp)]
        obtain rfl := hm
        walk_at "r"
        exact r_isXe ((e3.trans e4) _ _ haE) ((e2.trans (e3.trans e4)) _ _ hp) T.e_TooLong.i T.k_TooLong_TooLong (hq _ e04)
    · refine fin2 _ _ fun p2 hp2 => ?_
      clear fin1 fin2 hf
      have e3 := same_new hp2 (o := .tup [.non, v])
      walk_at "r"
      refine r_ixT (SqT.of upd_same) rfl ?_
      walk_at "r"
      refine ⟨by decide, fun p4 hp4 => ?_⟩
      have e4 := same_new hp4 (o := .lst [])
      have e04 := e0.trans (e'.trans (e3.trans e4))
      refine ⟨dl, p4, [], rfl, rfl, e04.seq hdl, SqL.of upd_same, true, rfl, ?_⟩
      rw [if_pos rfl]
      walk_at "r"
      rw [if_pos (by simp)]
      walk_at "r"
      exact hq _ e04
  · obtain ⟨t, rest, rfl, ht⟩ := hx
    obtain ⟨C, d, z0, hK, hd, hcap, hdep, hdict, hf⟩ := hf
    refine hf H0 E' Q' e0 fun H' p e' hn hp => ?_
    have hE : PySem.W.exmOne K (.ref C) (.ref (He.ga K "PlayError")) = some true := by
      rcases hK with ⟨_, rfl⟩ | ⟨_, rfl⟩ | ⟨_, rfl⟩
      · exact T.x_BadLoss
      · exact T.x_BadWord
      · exact T.x_BadNumber
    refine fin1 _ p _ H' hp hE fun a H2 p2 ha e2 haE hp2 => ?_
    clear fin1 fin2 hf
    have e3 := same_new hp2 (o := .tup [.ref a, .non])
    walk_at "r"
    refine r_ixT (SqT.of upd_same) rfl ?_
    walk_at "r"
    refine ⟨by decide, fun p4 hp4 => ?_⟩
    have e4 := same_new hp4 (o := .lst [])
    have e04 := e0.trans (e'.trans (e2.trans (e3.trans e4)))
    refine ⟨dl, p4, _, rfl, rfl, e04.seq hdl, SqL.of upd_same, false, rfl, ?_⟩
    rw [if_neg (by decide)]
    have hX : ECls K C (He.ma K (He.ga K "PlayError") "__init__") ∧ ∃ bL bW bN, PySem.W.kitOne K (.ref C) (.ref (He.ga K "BadLoss")) = some bL ∧ PySem.W.kitOne K (.ref C) (.ref (He.ga K "BadWord")) = some bW ∧ PySem.W.kitOne K (.ref C) (.ref (He.ga K "BadNumber")) = some bN ∧
        valV (mergeK (mergeK [] [(.inr (S [108, 111, 115, 115]), .bl bL), (.inr (S [119, 111, 114, 100]), .bl bW)]) (mergeK [] [(.inr (S [110, 117, 109, 98, 101, 114]), .bl bN)])) (.inr (S nm)) = some (.bl true) := by
      rcases hK with ⟨rfl, rfl⟩ | ⟨rfl, rfl⟩ | ⟨rfl, rfl⟩
      · exact ⟨T.e_BadLoss, _, _, _, T.k_BadLoss_BadLoss, T.k_BadLoss_BadWord, T.k_BadLoss_BadNumber, by decide +kernel⟩
      · exact ⟨T.e_BadWord, _, _, _, T.k_BadWord_BadLoss, T.k_BadWord_BadWord, T.k_BadWord_BadNumber, by decide +kernel⟩
      · exact ⟨T.e_BadNumber, _, _, _, T.k_BadNumber_BadLoss, T.k_BadNumber_BadWord, T.k_BadNumber_BadNumber, by decide +kernel⟩
    obtain ⟨hEC, bL, bW, bN, kL, kW, kN, hval⟩ := hX
    have hXC := hEC.i
    have hp4' := (e2.trans (e3.trans e4)) _ _ hp
    have ha4 := (e3.trans e4) _ _ haE
    intro p5 hp5
    have e5 := same_new hp5 (o := .dK [])
    rw [tPairs]
    walk_at "r"
    refine r_isXe (e5 _ _ ha4) (e5 _ _ hp4') hXC kL ?_
    rw [tPairs]
    walk_at "r"
    refine r_isXe (e5 _ _ ha4) (e5 _ _ hp4') hXC kW ?_
    rw [tPairs]
    refine ⟨upd_same, [(.inr (S [108, 111, 115, 115]), .bl bL), (.inr (S [119, 111, 114, 100]), .bl bW)], rfl, by show 2 ≤ 15; decide, ?_⟩
    have e6 := Same.mut e5 hp5 (o := .dK (mergeK [] [(.inr (S [108, 111, 115, 115]), .bl bL), (.inr (S [119, 111, 114, 100]), .bl bW)]))
    walk_at "r"
    refine ⟨.ref p5, rfl, .inr (.inr (.inl ⟨rfl, .inl ⟨_, upd_same⟩⟩)), ?_⟩
    intro p7 hp7
    have e7 := same_new hp7 (o := .dK [])
    rw [tPairs]
    walk_at "r"
    refine r_isXe (e7 _ _ (e6 _ _ ha4)) (e7 _ _ (e6 _ _ hp4')) hXC kN ?_
    rw [tPairs]
    refine ⟨upd_same, [(.inr (S [110, 117, 109, 98, 101, 114]), .bl bN)], rfl, by show 1 ≤ 15; decide, ?_⟩
    have e8 := Same.mut e7 hp7 (o := .dK (mergeK [] [(.inr (S [110, 117, 109, 98, 101, 114]), .bl bN)]))
    have hl : ∀ bL bW bN : Bool, (mergeK [] [((.inr (S [108, 111, 115, 115]) : Key), V.bl bL), (.inr (S [119, 111, 114, 100]), .bl bW)]).length + (mergeK [] [((.inr (S [110, 117, 109, 98, 101, 114]) : Key), V.bl bN)]).length ≤ 1000 ∧
        (mergeK (mergeK [] [((.inr (S [108, 111, 115, 115]) : Key), V.bl bL), (.inr (S [119, 111, 114, 100]), .bl bW)]) (mergeK [] [(.inr (S [110, 117, 109, 98, 101, 114]), .bl bN)])).length ≤ 1000 := by decide +kernel
    have n57 : p5 ≠ p7 := fun e => by
      subst e
      rw [upd_same] at hp7
      cases hp7
    refine ⟨p5, p7, _, _, rfl, rfl, e8 _ _ upd_same, upd_same, n57, (hl bL bW bN).1, (hl bL bW bN).2, ?_⟩
    have e9 := Same.mut (e6.trans e8) hp5 (o := .dK (mergeK (mergeK [] [(.inr (S [108, 111, 115, 115]), .bl bL), (.inr (S [119, 111, 114, 100]), .bl bW)]) (mergeK [] [(.inr (S [110, 117, 109, 98, 101, 114]), .bl bN)])))
    have e09 := e04.trans e9
    walk_at "r"
    refine ⟨.ref p5, rfl, ?_⟩
    walk_at "r"
    refine r_ixL (e09.seq hdl) (atI_nat (j := 0) rfl) ?_
    walk_at "r"
    refine r_ixT (Same.sqt e09 ht) (atI_nat (j := 0) rfl) ?_
    refine ⟨p5, .bl true, rfl, .inl ⟨_, .inr (S nm), .inl upd_same, rfl, hval.symm⟩, ?_⟩
    walk_at "r"
    refine r_xv ?_
    walk_at "r"
    refine ⟨a, _, p, _, _, rfl, e9 _ _ ha4, e9 _ _ hp4', hEC.f, hEC.no, rfl, ?_⟩
    walk_at "r"
    refine ⟨v, d, z0, rfl, dat_same e09 hd, by omega, by omega, hdict, ?_⟩
    walk_at "r"
    refine r_ixL (e09.seq hdl) (atI_nat (j := 0) rfl) ?_
    walk_at "r"
    refine r_ixT (Same.sqt e09 ht) (atI_nat (j := 1) rfl) ?_
    walk_at "r"
    refine ⟨v, d, z0, rfl, dat_same e09 hd, by omega, by omega, hdict, ?_⟩
    walk_at "r"
    have hb : decide (V.str d.shown = V.str d.shown) = true := decide_eq_true rfl
    show Q (V.bl (decide (V.str d.shown = V.str d.shown))) _
    rw [hb]
    exact hq _ e09

def sp_Lloss (K : PySem.W.Frag) : Sp := fun vs H Q _ => ∃ (a : Addr) (c : Int), vs = [.ref a] ∧ PotAt H a c ∧ c ≤ 600000 ∧ ∀ H' x d, But a H H' → PotAt H' a (c + 200) → Sml K a H' 4 20000 d x → Q x H'
theorem ok_Lloss (T : Txt K mg) : Ok P w K mg base CX0 (14) "_law_loss" s_Lloss ["pot"] (sp_Lloss K) := by
  obtain ⟨fd, D⟩ := T.d_Lloss
  refine ⟨⟨_, fd, T.g__law_loss, D, D.bindsN (fun _ _ _ _ _ _ us hl => match us, hl with | [_], _ => rfl), ?_⟩⟩
  refine D.ok sc_Lloss (fun vs H Q E h => ?_) (fun cdv A outer s H vs Q E hr h => ?_)
  · obtain ⟨a, c, rfl, hP, hc, q⟩ := h
    rfl
  · obtain ⟨a, c, rfl, hP, hc, q⟩ := h
    have F_Llaw_loss_drawn := ok_Llaw_loss_drawn (P := P) (w := w) (K := K) (mg := mg) (base := base) T
    have F_Lof := ok_Lof (P := P) (w := w) (K := K) (mg := mg) (base := base) T
    have F_Lbent := ok_LbentN (P := P) (w := w) (K := K) (mg := mg) (base := base) T 1
    have F_Lodd := ok_Lodd (P := P) (w := w) (K := K) (mg := mg) (base := base) T
    refine ⟨_, PSs.nox (pss_cons (ps_set (i := 1) sc_Lloss.nd rfl (by first | exact Or.inl rfl | exact Or.inr rfl) (pe_cl F_Llaw_loss_drawn hr (by rfl) pass0 (pa_cons (pv 0) pa_nil)))
      (pss_cons (ps_set (i := 2) sc_Lloss.nd rfl (by first | exact Or.inl rfl | exact Or.inr rfl) (pe_lst (pa_cons (pv 1) (pa_cons (pv 1) (pa_cons (pv 1) (pa_cons (pe_tup (pa_cons (pe_strS [] (by rfl)) (pa_cons (pe_op op_mul_str (pe_strS [110] (by rfl)) pe_int) pa_nil))) (pa_cons (pe_tup (pa_cons (pe_strS [] (by rfl)) (pa_cons (pe_op op_mul_str (pe_strS [110] (by rfl)) pe_int) pa_nil))) (pa_cons (pe_tup (pa_cons (pe_op op_mul_str (pe_strS [102] (by rfl)) pe_int) (pa_cons (pe_strS [115] (by rfl)) pa_nil))) (pa_cons (pe_tup (pa_cons (pe_ix ix_tup (pv 1) pe_int (fun _ _ => rfl)) (pa_cons (pe_strS [] (by rfl)) pa_nil))) (pa_cons (pe_callTy k_listOf (by rfl) T.z_list (by decide +kernel) (pa_cons (pv 1) pa_nil)) (pa_cons (pe_slice sl_tupA (pv 1) po_none (po_some pe_int)) pa_nil)))))))))))
      (pss_cons (ps_set (i := 2) sc_Lloss.nd rfl (by first | exact Or.inl rfl | exact Or.inr rfl) (pe_op op_cat (pv 2) (pe_lst (pa_cons (pe_tup (pa_cons (pe_op op_mul_str (pe_strS [102] (by rfl)) pe_int) (pa_cons (pe_strS [115] (by rfl)) pa_nil))) (pa_cons (pe_tup (pa_cons (pe_op op_mul_str (pe_strS [115] (by rfl)) pe_int) (pa_cons (pe_op op_mul_str (pe_strS [110] (by rfl)) pe_int) pa_nil))) pa_nil)))))
      (pss_cons (ps_set (i := 2) sc_Lloss.nd rfl (by first | exact Or.inl rfl | exact Or.inr rfl) (pe_op op_cat (pv 2) (pe_lst (pa_cons (pe_op op_catA (pv 1) (pe_tup (pa_cons (pe_strS [110] (by rfl)) pa_nil))) (pa_cons (pe_strS [110] (by rfl)) (pa_cons pe_non (pa_cons (pe_tup (pa_cons (pe_strS [120] (by rfl)) (pa_cons (pe_strS [110] (by rfl)) pa_nil))) (pa_cons (pe_tup (pa_cons (pe_ix ix_tup (pv 1) pe_int (fun _ _ => rfl)) (pa_cons (pe_strS [78] (by rfl)) pa_nil))) (pa_cons (pe_tup (pa_cons pe_non (pa_cons (pe_strS [110] (by rfl)) pa_nil))) (pa_cons (pe_tup (pa_cons (pe_ix ix_tup (pv 1) pe_int (fun _ _ => rfl)) (pa_cons (pe_lst (pa_cons (pe_strS [110] (by rfl)) pa_nil)) pa_nil))) pa_nil))))))))))
      (pss_one (ps_ret (pe_cl F_Lof hr (by rfl) pass0 (pa_cons (pv 0) (pa_cons (pe_op op_cat (pv 2) (pe_lst (pa_cons (pe_cl F_Lbent hr (by rfl) pass0 (pa_cons (pv 0) (pa_cons (pv 1) pa_nil))) (pa_cons (pe_cl F_Lodd hr (by rfl) pass0 (pa_cons (pv 0) pa_nil)) pa_nil)))) pa_nil))))))))), ?_⟩
    walk_at "r"
    refine ⟨a, c, rfl, hP, by omega, fun H1 t h r b1 P1 wh lh wr r0 lr hT => ?_⟩
    have st : St K a 4 20000 H _ [] H1 := St.start b1 P1
    have DL : Dat K a H1 (.tuple [.str (S h), .str (S r)]) (.ref t) := dat_tup hT (datL_cons (dat_W (fun c hc => (wd_asc wh c hc).1)) (datL_cons (dat_W (fun c hc => (wd_asc wr c hc).1)) datL_nil))
    have btl : bt (.tuple [.str (S h), .str (S r)]) = true := by
      show (bt (.str (S h)) && (bt (.str (S r)) && true)) = true
      rw [bt_S (wd_asc wh) (by omega), bt_S (wd_asc wr) (by omega)]
      rfl
    clear hT
    replace st := st.add (show Sml K a H1 4 20000 (.tuple [.str (S h), .str (S r)]) (.ref t) from ⟨DL, by simp only [cap, capL, capL_app, S_len, List.length_replicate, List.length_cons, List.length_nil, List.length_append]; omega, by simp only [PyData.depth, PyData.depthAll, depthL_app]; omega, fun z => by simp [PyData.hasDict, PyData.hasDictAll, hasDictL_app] at z⟩)
    replace st := st.add (show Sml K a H1 4 20000 (.tuple [.str (S h), .str (S r)]) (.ref t) from ⟨DL, by simp only [cap, capL, capL_app, S_len, List.length_replicate, List.length_cons, List.length_nil, List.length_append]; omega, by simp only [PyData.depth, PyData.depthAll, depthL_app]; omega, fun z => by simp [PyData.hasDict, PyData.hasDictAll, hasDictL_app] at z⟩)
    replace st := st.add (show Sml K a H1 4 20000 (.tuple [.str (S h), .str (S r)]) (.ref t) from ⟨DL, by simp only [cap, capL, capL_app, S_len, List.length_replicate, List.length_cons, List.length_nil, List.length_append]; omega, by simp only [PyData.depth, PyData.depthAll, depthL_app]; omega, fun z => by simp [PyData.hasDict, PyData.hasDictAll, hasDictL_app] at z⟩)
    walk_at "r"
    refine r_mulS (a := [110]) (n := 200) (by decide) (by decide) ?_
    rw [rep_one]
    walk_at "r"
    refine ⟨by show 2 ≤ sizeLine; decide, fun p1 hp1 => ?_⟩
    have sp1 := same_new hp1 (o := .tup [.str (S []), .str (S (List.replicate 200 110))])
    have np1 := st.p.fresh hp1
    replace st := st.same sp1
    replace DL := dat_same sp1 DL
    have Dp1 : Dat K a (upd H1 p1 (.tup [.str (S []), .str (S (List.replicate 200 110))])) (.tuple [.str (S []), .str (S (List.replicate 200 110))]) (.ref p1) := dat_tup (SqT.of upd_same) (datL_cons (dat_S (by decide)) (datL_cons (dat_W (asc_rep (by decide))) datL_nil))
    clear sp1 hp1
    generalize upd H1 p1 (.tup [.str (S []), .str (S (List.replicate 200 110))]) = Gp1 at st DL Dp1 ⊢
    replace st := st.add (show Sml K a Gp1 4 20000 (.tuple [.str (S []), .str (S (List.replicate 200 110))]) (.ref p1) from ⟨Dp1, by simp only [cap, capL, capL_app, S_len, List.length_replicate, List.length_cons, List.length_nil, List.length_append]; omega, by simp only [PyData.depth, PyData.depthAll, depthL_app]; omega, fun z => by simp [PyData.hasDict, PyData.hasDictAll, hasDictL_app] at z⟩)
    walk_at "r"
    refine r_mulS (a := [110]) (n := 201) (by decide) (by decide) ?_
    rw [rep_one]
    walk_at "r"
    refine ⟨by show 2 ≤ sizeLine; decide, fun p2 hp2 => ?_⟩
    have sp2 := same_new hp2 (o := .tup [.str (S []), .str (S (List.replicate 201 110))])
    have np2 := st.p.fresh hp2
    replace st := st.same sp2
    replace DL := dat_same sp2 DL
    have Dp2 : Dat K a (upd Gp1 p2 (.tup [.str (S []), .str (S (List.replicate 201 110))])) (.tuple [.str (S []), .str (S (List.replicate 201 110))]) (.ref p2) := dat_tup (SqT.of upd_same) (datL_cons (dat_S (by decide)) (datL_cons (dat_W (asc_rep (by decide))) datL_nil))
    clear sp2 hp2
    generalize upd Gp1 p2 (.tup [.str (S []), .str (S (List.replicate 201 110))]) = Gp2 at st DL Dp2 ⊢
    replace st := st.add (show Sml K a Gp2 4 20000 (.tuple [.str (S []), .str (S (List.replicate 201 110))]) (.ref p2) from ⟨Dp2, by simp only [cap, capL, capL_app, S_len, List.length_replicate, List.length_cons, List.length_nil, List.length_append]; omega, by simp only [PyData.depth, PyData.depthAll, depthL_app]; omega, fun z => by simp [PyData.hasDict, PyData.hasDictAll, hasDictL_app] at z⟩)
    walk_at "r"
    refine r_mulS (a := [102]) (n := 201) (by decide) (by decide) ?_
    rw [rep_one]
    walk_at "r"
    refine ⟨by show 2 ≤ sizeLine; decide, fun p3 hp3 => ?_⟩
    have sp3 := same_new hp3 (o := .tup [.str (S (List.replicate 201 102)), .str (S [115])])
    have np3 := st.p.fresh hp3
    replace st := st.same sp3
    replace DL := dat_same sp3 DL
    have Dp3 : Dat K a (upd Gp2 p3 (.tup [.str (S (List.replicate 201 102)), .str (S [115])])) (.tuple [.str (S (List.replicate 201 102)), .str (S [115])]) (.ref p3) := dat_tup (SqT.of upd_same) (datL_cons (dat_W (asc_rep (by decide))) (datL_cons (dat_S (by decide)) datL_nil))
    clear sp3 hp3
    generalize upd Gp2 p3 (.tup [.str (S (List.replicate 201 102)), .str (S [115])]) = Gp3 at st DL Dp3 ⊢
    replace st := st.add (show Sml K a Gp3 4 20000 (.tuple [.str (S (List.replicate 201 102)), .str (S [115])]) (.ref p3) from ⟨Dp3, by simp only [cap, capL, capL_app, S_len, List.length_replicate, List.length_cons, List.length_nil, List.length_append]; omega, by simp only [PyData.depth, PyData.depthAll, depthL_app]; omega, fun z => by simp [PyData.hasDict, PyData.hasDictAll, hasDictL_app] at z⟩)
    walk_at "r"
    refine r_ixT (dat_pair DL) rfl ?_
    walk_at "r"
    refine ⟨by show 2 ≤ sizeLine; decide, fun p4 hp4 => ?_⟩
    have sp4 := same_new hp4 (o := .tup [.str (S h), .str (S [])])
    have np4 := st.p.fresh hp4
    replace st := st.same sp4
    replace DL := dat_same sp4 DL
    have Dp4 : Dat K a (upd Gp3 p4 (.tup [.str (S h), .str (S [])])) (.tuple [.str (S h), .str (S [])]) (.ref p4) := dat_tup (SqT.of upd_same) (datL_cons (dat_W (fun c hc => (wd_asc wh c hc).1)) (datL_cons (dat_S (by decide)) datL_nil))
    clear sp4 hp4
    generalize upd Gp3 p4 (.tup [.str (S h), .str (S [])]) = Gp4 at st DL Dp4 ⊢
    replace st := st.add (show Sml K a Gp4 4 20000 (.tuple [.str (S h), .str (S [])]) (.ref p4) from ⟨Dp4, by simp only [cap, capL, capL_app, S_len, List.length_replicate, List.length_cons, List.length_nil, List.length_append]; omega, by simp only [PyData.depth, PyData.depthAll, depthL_app]; omega, fun z => by simp [PyData.hasDict, PyData.hasDictAll, hasDictL_app] at z⟩)
    walk_at "r"
    refine ⟨_, _, rfl, .inr (dat_pair DL), fun p5 hp5 => ?_⟩
    have sp5 := same_new hp5 (o := .lst [.str (S h), .str (S r)])
    have np5 := st.p.fresh hp5
    replace st := st.same sp5
    replace DL := dat_same sp5 DL
    have Dp5 : Dat K a (upd Gp4 p5 (.lst [.str (S h), .str (S r)])) (.list [.str (S h), .str (S r)]) (.ref p5) := dat_lst np5 (SqL.of upd_same) (datL_cons (dat_W (fun c hc => (wd_asc wh c hc).1)) (datL_cons (dat_W (fun c hc => (wd_asc wr c hc).1)) datL_nil))
    clear sp5 hp5
    generalize upd Gp4 p5 (.lst [.str (S h), .str (S r)]) = Gp5 at st DL Dp5 ⊢
    replace st := st.add (show Sml K a Gp5 4 20000 (.list [.str (S h), .str (S r)]) (.ref p5) from ⟨Dp5, by simp only [cap, capL, capL_app, S_len, List.length_replicate, List.length_cons, List.length_nil, List.length_append]; omega, by simp only [PyData.depth, PyData.depthAll, depthL_app]; omega, fun z => by simp [PyData.hasDict, PyData.hasDictAll, hasDictL_app] at z⟩)
    walk_at "r"
    refine r_slA (dat_pair DL) fun p6 Gp6 sp6 tp6 => ?_
    rw [show (1 : Int) = ((1 : Nat) : Int) from rfl, cutV_to] at tp6
    replace st := st.same sp6
    replace DL := dat_same sp6 DL
    have Dp6 : Dat K a Gp6 (.tuple [.str (S h)]) (.ref p6) := dat_tup tp6 (datL_cons (dat_W (fun c hc => (wd_asc wh c hc).1)) datL_nil)
    clear sp6
    replace st := st.add (show Sml K a Gp6 4 20000 (.tuple [.str (S h)]) (.ref p6) from ⟨Dp6, by simp only [cap, capL, capL_app, S_len, List.length_replicate, List.length_cons, List.length_nil, List.length_append]; omega, by simp only [PyData.depth, PyData.depthAll, depthL_app]; omega, fun z => by simp [PyData.hasDict, PyData.hasDictAll, hasDictL_app] at z⟩)
    walk_at "r"
    refine ⟨by show 9 ≤ sizeLine; decide, fun p7 hp7 => ?_⟩
    have sp7 := same_new hp7 (o := .lst [.ref t, .ref t, .ref t, .ref p1, .ref p2, .ref p3, .ref p4, .ref p5, .ref p6])
    have np7 := st.p.fresh hp7
    replace st := st.same sp7
    replace DL := dat_same sp7 DL
    have fp7 : (upd Gp6 p7 (.lst [.ref t, .ref t, .ref t, .ref p1, .ref p2, .ref p3, .ref p4, .ref p5, .ref p6])) p7 = some (.lst [.ref t, .ref t, .ref t, .ref p1, .ref p2, .ref p3, .ref p4, .ref p5, .ref p6]) := upd_same
    clear sp7 hp7
    generalize upd Gp6 p7 (.lst [.ref t, .ref t, .ref t, .ref p1, .ref p2, .ref p3, .ref p4, .ref p5, .ref p6]) = Gp7 at st DL fp7 ⊢
    walk_at "r"
    refine r_mulS (a := [102]) (n := 200) (by decide) (by decide) ?_
    rw [rep_one]
    walk_at "r"
    refine ⟨by show 2 ≤ sizeLine; decide, fun p8 hp8 => ?_⟩
    have sp8 := same_new hp8 (o := .tup [.str (S (List.replicate 200 102)), .str (S [115])])
    have np8 := st.p.fresh hp8
    replace st := st.same sp8
    replace DL := dat_same sp8 DL
    replace fp7 := sp8 _ _ fp7
    have Dp8 : Dat K a (upd Gp7 p8 (.tup [.str (S (List.replicate 200 102)), .str (S [115])])) (.tuple [.str (S (List.replicate 200 102)), .str (S [115])]) (.ref p8) := dat_tup (SqT.of upd_same) (datL_cons (dat_W (asc_rep (by decide))) (datL_cons (dat_S (by decide)) datL_nil))
    clear sp8 hp8
    generalize upd Gp7 p8 (.tup [.str (S (List.replicate 200 102)), .str (S [115])]) = Gp8 at st DL fp7 Dp8 ⊢
    replace st := st.add (show Sml K a Gp8 4 20000 (.tuple [.str (S (List.replicate 200 102)), .str (S [115])]) (.ref p8) from ⟨Dp8, by simp only [cap, capL, capL_app, S_len, List.length_replicate, List.length_cons, List.length_nil, List.length_append]; omega, by simp only [PyData.depth, PyData.depthAll, depthL_app]; omega, fun z => by simp [PyData.hasDict, PyData.hasDictAll, hasDictL_app] at z⟩)
    walk_at "r"
    refine r_mulS (a := [115]) (n := 200) (by decide) (by decide) ?_
    rw [rep_one]
    walk_at "r"
    refine r_mulS (a := [110]) (n := 200) (by decide) (by decide) ?_
    rw [rep_one]
    walk_at "r"
    refine ⟨by show 2 ≤ sizeLine; decide, fun p9 hp9 => ?_⟩
    have sp9 := same_new hp9 (o := .tup [.str (S (List.replicate 200 115)), .str (S (List.replicate 200 110))])
    have np9 := st.p.fresh hp9
    replace st := st.same sp9
    replace DL := dat_same sp9 DL
    replace fp7 := sp9 _ _ fp7
    have Dp9 : Dat K a (upd Gp8 p9 (.tup [.str (S (List.replicate 200 115)), .str (S (List.replicate 200 110))])) (.tuple [.str (S (List.replicate 200 115)), .str (S (List.replicate 200 110))]) (.ref p9) := dat_tup (SqT.of upd_same) (datL_cons (dat_W (asc_rep (by decide))) (datL_cons (dat_W (asc_rep (by decide))) datL_nil))
    clear sp9 hp9
    generalize upd Gp8 p9 (.tup [.str (S (List.replicate 200 115)), .str (S (List.replicate 200 110))]) = Gp9 at st DL fp7 Dp9 ⊢
    replace st := st.add (show Sml K a Gp9 4 20000 (.tuple [.str (S (List.replicate 200 115)), .str (S (List.replicate 200 110))]) (.ref p9) from ⟨Dp9, by simp only [cap, capL, capL_app, S_len, List.length_replicate, List.length_cons, List.length_nil, List.length_append]; omega, by simp only [PyData.depth, PyData.depthAll, depthL_app]; omega, fun z => by simp [PyData.hasDict, PyData.hasDictAll, hasDictL_app] at z⟩)
    walk_at "r"
    refine ⟨by show 2 ≤ sizeLine; decide, fun p10 hp10 => ?_⟩
    have sp10 := same_new hp10 (o := .lst [.ref p8, .ref p9])
    have np10 := st.p.fresh hp10
    replace st := st.same sp10
    replace DL := dat_same sp10 DL
    replace fp7 := sp10 _ _ fp7
    have fp10 : (upd Gp9 p10 (.lst [.ref p8, .ref p9])) p10 = some (.lst [.ref p8, .ref p9]) := upd_same
    clear sp10 hp10
    generalize upd Gp9 p10 (.lst [.ref p8, .ref p9]) = Gp10 at st DL fp7 fp10 ⊢
    walk_at "r"
    refine r_catL fp7 fp10 (by simp) fun p11 hp11 => ?_
    have np11 := st.p.fresh hp11
    clear np7 np10
    have sp11 := same_new hp11 (o := .lst ([.ref t, .ref t, .ref t, .ref p1, .ref p2, .ref p3, .ref p4, .ref p5, .ref p6] ++ [.ref p8, .ref p9]))
    replace st := st.same sp11
    replace DL := dat_same sp11 DL
    have fp11 : (upd Gp10 p11 (.lst ([.ref t, .ref t, .ref t, .ref p1, .ref p2, .ref p3, .ref p4, .ref p5, .ref p6] ++ [.ref p8, .ref p9]))) p11 = some (.lst ([.ref t, .ref t, .ref t, .ref p1, .ref p2, .ref p3, .ref p4, .ref p5, .ref p6] ++ [.ref p8, .ref p9])) := upd_same
    clear sp11 hp11
    generalize upd Gp10 p11 (.lst ([.ref t, .ref t, .ref t, .ref p1, .ref p2, .ref p3, .ref p4, .ref p5, .ref p6] ++ [.ref p8, .ref p9])) = Gp11 at st DL fp11 ⊢
    replace fp11 : Gp11 p11 = some (.lst [.ref t, .ref t, .ref t, .ref p1, .ref p2, .ref p3, .ref p4, .ref p5, .ref p6, .ref p8, .ref p9]) := fp11
    walk_at "r"
    refine ⟨by show 1 ≤ sizeLine; decide, fun p12 hp12 => ?_⟩
    have sp12 := same_new hp12 (o := .tup [.str (S [110])])
    have np12 := st.p.fresh hp12
    replace st := st.same sp12
    replace DL := dat_same sp12 DL
    replace fp11 := sp12 _ _ fp11
    have Dp12 : Dat K a (upd Gp11 p12 (.tup [.str (S [110])])) (.tuple [.str (S [110])]) (.ref p12) := dat_tup (SqT.of upd_same) (datL_cons (dat_S (by decide)) datL_nil)
    clear sp12 hp12
    generalize upd Gp11 p12 (.tup [.str (S [110])]) = Gp12 at st DL fp11 Dp12 ⊢
    obtain ⟨_, _, ep12, tp12, lp12⟩ := dat_tupI Dp12
    cases ep12
    refine r_catA (dat_pair DL) tp12 (by have := datL_len lp12; simp only [List.length_cons, List.length_nil] at this ⊢; omega) fun p13 Gp13 sp13 tp13 => ?_
    replace lp12 := datL_same sp13 lp12
    replace st := st.same sp13
    replace DL := dat_same sp13 DL
    replace fp11 := sp13 _ _ fp11
    have Dp13 : Dat K a Gp13 (.tuple ([.str (S h), .str (S r)] ++ [.str (S [110])])) (.ref p13) := dat_tup tp13 (datL_app (datL_cons (dat_W (fun c hc => (wd_asc wh c hc).1)) (datL_cons (dat_W (fun c hc => (wd_asc wr c hc).1)) datL_nil)) lp12)
    clear sp13
    replace st := st.add (show Sml K a Gp13 4 20000 (.tuple ([.str (S h), .str (S r)] ++ [.str (S [110])])) (.ref p13) from ⟨Dp13, by simp only [cap, capL, capL_app, S_len, List.length_replicate, List.length_cons, List.length_nil, List.length_append]; omega, by simp only [PyData.depth, PyData.depthAll, depthL_app]; omega, fun z => by simp [PyData.hasDict, PyData.hasDictAll, hasDictL_app] at z⟩)
    replace st := st.add (show Sml K a Gp13 4 20000 (.str (S [110])) (.str (S [110])) from ⟨(dat_S (by decide)), by simp only [cap, capL, capL_app, S_len, List.length_replicate, List.length_cons, List.length_nil, List.length_append]; omega, by simp only [PyData.depth, PyData.depthAll, depthL_app]; omega, fun z => by simp [PyData.hasDict, PyData.hasDictAll, hasDictL_app] at z⟩)
    replace st := st.add (show Sml K a Gp13 4 20000 (.none) (.non) from ⟨dat_non, by simp only [cap, capL, capL_app, S_len, List.length_replicate, List.length_cons, List.length_nil, List.length_append]; omega, by simp only [PyData.depth, PyData.depthAll, depthL_app]; omega, fun z => by simp [PyData.hasDict, PyData.hasDictAll, hasDictL_app] at z⟩)
    walk_at "r"
    refine ⟨by show 2 ≤ sizeLine; decide, fun p14 hp14 => ?_⟩
    have sp14 := same_new hp14 (o := .tup [.str (S [120]), .str (S [110])])
    have np14 := st.p.fresh hp14
    replace st := st.same sp14
    replace DL := dat_same sp14 DL
    replace fp11 := sp14 _ _ fp11
    have Dp14 : Dat K a (upd Gp13 p14 (.tup [.str (S [120]), .str (S [110])])) (.tuple [.str (S [120]), .str (S [110])]) (.ref p14) := dat_tup (SqT.of upd_same) (datL_cons (dat_S (by decide)) (datL_cons (dat_S (by decide)) datL_nil))
    clear sp14 hp14
    generalize upd Gp13 p14 (.tup [.str (S [120]), .str (S [110])]) = Gp14 at st DL fp11 Dp14 ⊢
    replace st := st.add (show Sml K a Gp14 4 20000 (.tuple [.str (S [120]), .str (S [110])]) (.ref p14) from ⟨Dp14, by simp only [cap, capL, capL_app, S_len, List.length_replicate, List.length_cons, List.length_nil, List.length_append]; omega, by simp only [PyData.depth, PyData.depthAll, depthL_app]; omega, fun z => by simp [PyData.hasDict, PyData.hasDictAll, hasDictL_app] at z⟩)
    walk_at "r"
    refine r_ixT (dat_pair DL) rfl ?_
    walk_at "r"
    refine ⟨by show 2 ≤ sizeLine; decide, fun p15 hp15 => ?_⟩
    have sp15 := same_new hp15 (o := .tup [.str (S h), .str (S [78])])
    have np15 := st.p.fresh hp15
    replace st := st.same sp15
    replace DL := dat_same sp15 DL
    replace fp11 := sp15 _ _ fp11
    have Dp15 : Dat K a (upd Gp14 p15 (.tup [.str (S h), .str (S [78])])) (.tuple [.str (S h), .str (S [78])]) (.ref p15) := dat_tup (SqT.of upd_same) (datL_cons (dat_W (fun c hc => (wd_asc wh c hc).1)) (datL_cons (dat_S (by decide)) datL_nil))
    clear sp15 hp15
    generalize upd Gp14 p15 (.tup [.str (S h), .str (S [78])]) = Gp15 at st DL fp11 Dp15 ⊢
    replace st := st.add (show Sml K a Gp15 4 20000 (.tuple [.str (S h), .str (S [78])]) (.ref p15) from ⟨Dp15, by simp only [cap, capL, capL_app, S_len, List.length_replicate, List.length_cons, List.length_nil, List.length_append]; omega, by simp only [PyData.depth, PyData.depthAll, depthL_app]; omega, fun z => by simp [PyData.hasDict, PyData.hasDictAll, hasDictL_app] at z⟩)
    walk_at "r"
    refine ⟨by show 2 ≤ sizeLine; decide, fun p16 hp16 => ?_⟩
    have sp16 := same_new hp16 (o := .tup [.non, .str (S [110])])
    have np16 := st.p.fresh hp16
    replace st := st.same sp16
    replace DL := dat_same sp16 DL
    replace fp11 := sp16 _ _ fp11
    have Dp16 : Dat K a (upd Gp15 p16 (.tup [.non, .str (S [110])])) (.tuple [.none, .str (S [110])]) (.ref p16) := dat_tup (SqT.of upd_same) (datL_cons dat_non (datL_cons (dat_S (by decide)) datL_nil))
    clear sp16 hp16
    generalize upd Gp15 p16 (.tup [.non, .str (S [110])]) = Gp16 at st DL fp11 Dp16 ⊢
    replace st := st.add (show Sml K a Gp16 4 20000 (.tuple [.none, .str (S [110])]) (.ref p16) from ⟨Dp16, by simp only [cap, capL, capL_app, S_len, List.length_replicate, List.length_cons, List.length_nil, List.length_append]; omega, by simp only [PyData.depth, PyData.depthAll, depthL_app]; omega, fun z => by simp [PyData.hasDict, PyData.hasDictAll, hasDictL_app] at z⟩)
    walk_at "r"
    refine r_ixT (dat_pair DL) rfl ?_
    walk_at "r"
    refine ⟨by show 1 ≤ sizeLine; decide, fun p17 hp17 => ?_⟩
    have sp17 := same_new hp17 (o := .lst [.str (S [110])])
    have np17 := st.p.fresh hp17
    replace st := st.same sp17
    replace DL := dat_same sp17 DL
    replace fp11 := sp17 _ _ fp11
    have Dp17 : Dat K a (upd Gp16 p17 (.lst [.str (S [110])])) (.list [.str (S [110])]) (.ref p17) := dat_lst np17 (SqL.of upd_same) (datL_cons (dat_S (by decide)) datL_nil)
    clear sp17 hp17
    generalize upd Gp16 p17 (.lst [.str (S [110])]) = Gp17 at st DL fp11 Dp17 ⊢
    walk_at "r"
    refine ⟨by show 2 ≤ sizeLine; decide, fun p18 hp18 => ?_⟩
    have sp18 := same_new hp18 (o := .tup [.str (S h), .ref p17])
    have np18 := st.p.fresh hp18
    replace st := st.same sp18
    replace DL := dat_same sp18 DL
    replace fp11 := sp18 _ _ fp11
    replace Dp17 := dat_same sp18 Dp17
    have Dp18 : Dat K a (upd Gp17 p18 (.tup [.str (S h), .ref p17])) (.tuple [.str (S h), .list [.str (S [110])]]) (.ref p18) := dat_tup (SqT.of upd_same) (datL_cons (dat_W (fun c hc => (wd_asc wh c hc).1)) (datL_cons Dp17 datL_nil))
    clear sp18 hp18
    generalize upd Gp17 p18 (.tup [.str (S h), .ref p17]) = Gp18 at st DL fp11 Dp17 Dp18 ⊢
    replace st := st.add (show Sml K a Gp18 4 20000 (.tuple [.str (S h), .list [.str (S [110])]]) (.ref p18) from ⟨Dp18, by simp only [cap, capL, capL_app, S_len, List.length_replicate, List.length_cons, List.length_nil, List.length_append]; omega, by simp only [PyData.depth, PyData.depthAll, depthL_app]; omega, fun z => by simp [PyData.hasDict, PyData.hasDictAll, hasDictL_app] at z⟩)
    walk_at "r"
    refine ⟨by show 7 ≤ sizeLine; decide, fun p19 hp19 => ?_⟩
    have sp19 := same_new hp19 (o := .lst [.ref p13, .str (S [110]), .non, .ref p14, .ref p15, .ref p16, .ref p18])
    have np19 := st.p.fresh hp19
    replace st := st.same sp19
    replace DL := dat_same sp19 DL
    replace fp11 := sp19 _ _ fp11
    have fp19 : (upd Gp18 p19 (.lst [.ref p13, .str (S [110]), .non, .ref p14, .ref p15, .ref p16, .ref p18])) p19 = some (.lst [.ref p13, .str (S [110]), .non, .ref p14, .ref p15, .ref p16, .ref p18]) := upd_same
    clear sp19 hp19
    generalize upd Gp18 p19 (.lst [.ref p13, .str (S [110]), .non, .ref p14, .ref p15, .ref p16, .ref p18]) = Gp19 at st DL fp11 fp19 ⊢
    walk_at "r"
    refine r_catL fp11 fp19 (by simp) fun p20 hp20 => ?_
    have np20 := st.p.fresh hp20
    clear np11 np19
    have sp20 := same_new hp20 (o := .lst ([.ref t, .ref t, .ref t, .ref p1, .ref p2, .ref p3, .ref p4, .ref p5, .ref p6, .ref p8, .ref p9] ++ [.ref p13, .str (S [110]), .non, .ref p14, .ref p15, .ref p16, .ref p18]))
    replace st := st.same sp20
    replace DL := dat_same sp20 DL
    have fp20 : (upd Gp19 p20 (.lst ([.ref t, .ref t, .ref t, .ref p1, .ref p2, .ref p3, .ref p4, .ref p5, .ref p6, .ref p8, .ref p9] ++ [.ref p13, .str (S [110]), .non, .ref p14, .ref p15, .ref p16, .ref p18]))) p20 = some (.lst ([.ref t, .ref t, .ref t, .ref p1, .ref p2, .ref p3, .ref p4, .ref p5, .ref p6, .ref p8, .ref p9] ++ [.ref p13, .str (S [110]), .non, .ref p14, .ref p15, .ref p16, .ref p18])) := upd_same
    clear sp20 hp20
    generalize upd Gp19 p20 (.lst ([.ref t, .ref t, .ref t, .ref p1, .ref p2, .ref p3, .ref p4, .ref p5, .ref p6, .ref p8, .ref p9] ++ [.ref p13, .str (S [110]), .non, .ref p14, .ref p15, .ref p16, .ref p18])) = Gp20 at st DL fp20 ⊢
    replace fp20 : Gp20 p20 = some (.lst [.ref t, .ref t, .ref t, .ref p1, .ref p2, .ref p3, .ref p4, .ref p5, .ref p6, .ref p8, .ref p9, .ref p13, .str (S [110]), .non, .ref p14, .ref p15, .ref p16, .ref p18]) := fp20
    walk_at "r"
    refine ⟨a, _, _, _, rfl, st.p, by omega, by decide, DL, btl, (show PyData.depth (.tuple [.str (S h), .str (S r)]) ≤ 1 by simp [PyData.depth, PyData.depthAll]), by simp only [cap, capL, S_len, List.length_cons, List.length_nil]; omega, fun J21 xJ21 dJ21 bJ21 PJ21 SJ21 => ?_⟩
    replace DL := dat_but bJ21 st.p DL
    replace fp20 := bJ21 _ _ np20 fp20
    replace st := st.but bJ21 PJ21
    replace st := st.add (sml_mono SJ21 (by decide) (by first | decide | (simp only [cap, capL, S_len, List.length_cons, List.length_nil]; omega)))
    clear SJ21
    walk_at "r"
    refine ⟨a, _, rfl, st.p, by omega, fun J22 xJ22 dJ22 bJ22 PJ22 SJ22 => ?_⟩
    replace DL := dat_but bJ22 st.p DL
    replace fp20 := bJ22 _ _ np20 fp20
    replace st := st.but bJ22 PJ22
    replace st := st.add (sml_mono SJ22 (by decide) (by first | decide | (simp only [cap, capL, S_len, List.length_cons, List.length_nil]; omega)))
    clear SJ22
    walk_at "r"
    refine ⟨by show 2 ≤ sizeLine; decide, fun p23 hp23 => ?_⟩
    have sp23 := same_new hp23 (o := .lst [xJ21, xJ22])
    have np23 := st.p.fresh hp23
    replace st := st.same sp23
    replace DL := dat_same sp23 DL
    replace fp20 := sp23 _ _ fp20
    have fp23 : (upd J22 p23 (.lst [xJ21, xJ22])) p23 = some (.lst [xJ21, xJ22]) := upd_same
    clear sp23 hp23
    generalize upd J22 p23 (.lst [xJ21, xJ22]) = Gp23 at st DL fp20 fp23 ⊢
    walk_at "r"
    refine r_catL fp20 fp23 (by simp) fun p24 hp24 => ?_
    have np24 := st.p.fresh hp24
    clear np20 np23
    have sp24 := same_new hp24 (o := .lst ([.ref t, .ref t, .ref t, .ref p1, .ref p2, .ref p3, .ref p4, .ref p5, .ref p6, .ref p8, .ref p9, .ref p13, .str (S [110]), .non, .ref p14, .ref p15, .ref p16, .ref p18] ++ [xJ21, xJ22]))
    replace st := st.same sp24
    replace DL := dat_same sp24 DL
    have fp24 : (upd Gp23 p24 (.lst ([.ref t, .ref t, .ref t, .ref p1, .ref p2, .ref p3, .ref p4, .ref p5, .ref p6, .ref p8, .ref p9, .ref p13, .str (S [110]), .non, .ref p14, .ref p15, .ref p16, .ref p18] ++ [xJ21, xJ22]))) p24 = some (.lst ([.ref t, .ref t, .ref t, .ref p1, .ref p2, .ref p3, .ref p4, .ref p5, .ref p6, .ref p8, .ref p9, .ref p13, .str (S [110]), .non, .ref p14, .ref p15, .ref p16, .ref p18] ++ [xJ21, xJ22])) := upd_same
    clear sp24 hp24
    generalize upd Gp23 p24 (.lst ([.ref t, .ref t, .ref t, .ref p1, .ref p2, .ref p3, .ref p4, .ref p5, .ref p6, .ref p8, .ref p9, .ref p13, .str (S [110]), .non, .ref p14, .ref p15, .ref p16, .ref p18] ++ [xJ21, xJ22])) = Gp24 at st DL fp24 ⊢
    replace fp24 : Gp24 p24 = some (.lst [.ref t, .ref t, .ref t, .ref p1, .ref p2, .ref p3, .ref p4, .ref p5, .ref p6, .ref p8, .ref p9, .ref p13, .str (S [110]), .non, .ref p14, .ref p15, .ref p16, .ref p18, xJ21, xJ22]) := fp24
    walk_at "r"
    refine ⟨a, p24, _, _, rfl, st.p, by omega, SqL.of fp24, np24, by simp, by simp, fun Hz x bz Pz hx => ?_⟩
    obtain ⟨d, Sz⟩ := (st.but bz Pz).g x hx
    exact q _ _ _ (st.b.trans bz) (Pz.mono (by omega)) Sz

/-- a list of what is due: nothing, or first of all a word with the value v -/
def DueR (a : Addr) (H : Hp) (dl : Addr) (f : Option (List Nat × V)) : Prop := dl ≠ a ∧ ∃ xs, H dl = some (.lst xs) ∧ xs.length ≤ 10 ∧ match f with
  | none => xs = []
  | some (nm, v) => ∃ t rest, xs = .ref t :: rest ∧ H t = some (.tup [.str (S nm), v])
def dueF (b : Bool) (nm : List Nat) (v : V) : Option (List Nat × V) := if b = true then none else some (nm, v)
theorem DueR.ext {a : Addr} {H H' : Hp} {dl : Addr} {f : Option (List Nat × V)} (e : ExtN H H') (h : DueR a H dl f) : DueR a H' dl f := by
  obtain ⟨n, xs, h1, hl, h2⟩ := h
  refine ⟨n, xs, e _ _ h1 (fun _ z => nomatch z), hl, ?_⟩
  cases f with
  | none => exact h2
  | some y =>
    obtain ⟨t, rest, h3, h4⟩ := h2
    exact ⟨t, rest, h3, e _ _ h4 (fun _ z => nomatch z)⟩
theorem DueR.but {a : Addr} {H H' : Hp} {c : Int} {dl : Addr} {f : Option (List Nat × V)} (e : But a H H') (P : PotAt H a c) (h : DueR a H dl f) : DueR a H' dl f := by
  obtain ⟨n, xs, h1, hl, h2⟩ := h
  refine ⟨n, xs, e _ _ n h1, hl, ?_⟩
  cases f with
  | none => exact h2
  | some y =>
    obtain ⟨t, rest, h3, h4⟩ := h2
    exact ⟨t, rest, h3, e _ _ (tup_neP h4 P) h4⟩
theorem DueR.due {K : PySem.W.Frag} {a : Addr} {H : Hp} {dl : Addr} {f : Option (List Nat × V)} (h : DueR a H dl f) : DueL K H dl f := by
  obtain ⟨n, xs, h1, hl, h2⟩ := h
  refine ⟨xs, SqL.of h1, ?_⟩
  cases f with
  | none => exact h2
  | some y =>
    obtain ⟨t, rest, h3, h4⟩ := h2
    exact ⟨t, rest, h3, SqT.of h4⟩
/-- two lists of what is due, put together -/
theorem DueR.cat {K : PySem.W.Frag} {a : Addr} {H : Hp} {l1 l2 : Addr} {f1 f2 : Option (List Nat × V)} {Q : VK} (h1 : DueR a H l1 f1) (h2 : DueR a H l2 f2) (q : ∀ p, H p = none → ∀ H', (∃ o, H' = upd H p o) → DueL K H' p (f1.or f2) → Q (.ref p) H') : rCat (.ref l1) (.ref l2) H Q := by
  obtain ⟨n1, xs, a1, z1, b1⟩ := h1
  obtain ⟨n2, ys, a2, z2, b2⟩ := h2
  refine r_catL a1 a2 (by omega) fun p hp => ?_
  have e := same_new hp (o := .lst (xs ++ ys))
  refine q p hp _ ⟨_, rfl⟩ ⟨_, SqL.of upd_same, ?_⟩
  cases f1 with
  | some y =>
    obtain ⟨t, rest, rfl, h4⟩ := b1
    exact ⟨t, _, rfl, SqT.of (e _ _ h4)⟩
  | none =>
    subst b1
    cases f2 with
    | none => exact b2
    | some y =>
      obtain ⟨t, rest, rfl, h4⟩ := b2
      exact ⟨t, _, rfl, SqT.of (e _ _ h4)⟩
structure J6 (K : PySem.W.Frag) (a : Addr) (G0 : Hp) (c : Int) (da db : PyData) (xa xb : V) (l1 l2 : Addr) (fa fb : Option (List Nat × V)) (H : Hp) : Prop where
  b : ButT a G0 H
  p : PotAt H a c
  t : Tabs (tabs K tf) H
  d1 : Dat K a H da xa
  d2 : Dat K a H db xb
  u1 : DueR a H l1 fa
  u2 : DueR a H l2 fb
section
variable {K : PySem.W.Frag} {a : Addr} {G0 H H' : Hp} {c c' : Int} {da db : PyData} {xa xb : V} {l1 l2 : Addr} {fa fb : Option (List Nat × V)}
theorem J6.ext (j : J6 K a G0 c da db xa xb l1 l2 fa fb H) (e : ExtN H H') (t : Tabs (tabs K tf) H') : J6 K a G0 c da db xa xb l1 l2 fa fb H' := ⟨j.b.trans (ButT.ofN e), j.p.extN e, t, dat_extN e j.d1, dat_extN e j.d2, j.u1.ext e, j.u2.ext e⟩
theorem J6.same (j : J6 K a G0 c da db xa xb l1 l2 fa fb H) (e : Same H H') : J6 K a G0 c da db xa xb l1 l2 fa fb H' := j.ext (extN_same e) (j.t.ext e)
theorem J6.but (j : J6 K a G0 c da db xa xb l1 l2 fa fb H) (e : But a H H') (P : PotAt H' a c') : J6 K a G0 c' da db xa xb l1 l2 fa fb H' := ⟨j.b.trans (ButT.ofB e), P, tabs_pot j.t j.p e, dat_but e j.p j.d1, dat_but e j.p j.d2, j.u1.but e j.p, j.u2.but e j.p⟩
end

theorem DueR.mut {a D : Addr} {H : Hp} {dl : Addr} {f : Option (List Nat × V)} {acc acc' : List V} (h : DueR a H dl f) (n : dl ≠ D) (hD : H D = some (.lst acc)) : DueR a (upd H D (.lst acc')) dl f := by
  obtain ⟨n0, xs, h1, hl, h2⟩ := h
  refine ⟨n0, xs, by rw [upd_ne n]; exact h1, hl, ?_⟩
  cases f with
  | none => exact h2
  | some y =>
    obtain ⟨t, rest, h3, h4⟩ := h2
    exact ⟨t, rest, h3, by rw [upd_ne (ne_of h4 hD (by intro z; cases z))]; exact h4⟩
theorem DueR.mk {a : Addr} {H H' : Hp} {c : Int} {dl : Addr} {nm : List Nat} {b : Bool} {v : V} (P : PotAt H a c) (hd : H dl = none) (h1 : b = true → H' dl = some (.lst [])) (h2 : b = false → ∃ t, H' dl = some (.lst [.ref t]) ∧ H' t = some (.tup [.str (S nm), v])) : DueR a H' dl (dueF b nm v) := by
  refine ⟨P.fresh hd, ?_⟩
  cases b with
  | true => exact ⟨[], h1 rfl, by decide, rfl⟩
  | false =>
    obtain ⟨t, h3, h4⟩ := h2 rfl
    exact ⟨[.ref t], h3, by show 1 ≤ 10; decide, t, [], rfl, h4⟩
/-- what a call must do: run through, or raise -/
abbrev RzN (K : PySem.W.Frag) (H : Hp) (mb : Bool) (tl : XK → Hp → VK → Prop) : Prop := ∀ (H0 : Hp) (E' : XK) (Q' : VK), Same H H0 → (mb = true → ∀ v H' p, Same H0 H' → H0 p = none → H' p = some (.xd [("value", v)]) → E' (.ref (He.ga K "TooLong")) (some p) H') → (∀ v H', Same H0 H' → Q' v H') → tl E' H0 Q'
abbrev RzS (K : PySem.W.Frag) (H : Hp) (nm : List Nat) (v : V) (tl : XK → Hp → VK → Prop) : Prop := ∃ (C : Addr) (d : PyData) (z0 : Addr), Kind K nm C ∧ Dat K z0 H d v ∧ cap d ≤ 1000000 ∧ d.depth ≤ 50 ∧ (d.hasDict = true → noList d = true) ∧
    ∀ (H0 : Hp) (E' : XK) (Q' : VK), Same H H0 → (∀ H' p, Same H0 H' → H0 p = none → H' p = some (.xd [("value", v)]) → E' (.ref C) (some p) H') → tl E' H0 Q'
theorem rz_one {K : PySem.W.Frag} {H : Hp} {mb b : Bool} {nm : List Nat} {v : V} {tl : XK → Hp → VK → Prop} (h1 : b = true → RzN K H mb tl) (h2 : b = false → RzS K H nm v tl) : match dueF b nm v with
  | none => RzN K H mb tl
  | some (nm, v) => RzS K H nm v tl := by
  cases b with
  | true => exact h1 rfl
  | false => exact h2 rfl
theorem rz_two {K : PySem.W.Frag} {H : Hp} {mb b b' : Bool} {nm nm' : List Nat} {v v' : V} {tl : XK → Hp → VK → Prop} (h1 : b = true → b' = true → RzN K H mb tl) (h2 : b = false → RzS K H nm v tl) (h3 : b = true → b' = false → RzS K H nm' v' tl) : match (dueF b nm v).or (dueF b' nm' v') with
  | none => RzN K H mb tl
  | some (nm, v) => RzS K H nm v tl := by
  cases b with
  | true =>
    cases b' with
    | true => exact h1 rfl rfl
    | false => exact h3 rfl rfl
  | false => exact h2 rfl
abbrev nL : List Nat := [108, 111, 115, 115]
abbrev nW : List Nat := [119, 111, 114, 100]
abbrev nN : List Nat := [110, 117, 109, 98, 101, 114]
def sp_Lright (K : PySem.W.Frag) : Sp := fun vs H Q _ => ∃ a : Addr, vs = [.ref a] ∧ PotAt H a 0 ∧ Tabs (tabs K tf) H ∧ ∀ H', ButT a H H' → Tabs (tabs K tf) H' → Q (.bl true) H'
theorem ok_Lright (T : Txt K mg) (TB : TBs K mg base tf) : OkG P w K mg base (16) "_law_right" s_Lright ["pot"] (sp_Lright K) := by
  obtain ⟨fd, D⟩ := T.d_Lright
  refine okG_of T.g__law_right D (D.bindsN (fun _ _ _ _ _ _ us hl => match us, hl with | [_], _ => rfl)) sc_Lright (fun vs H Q E h => ?_) (fun cdv A outer s H vs Q E hgd hcd hr h => ?_)
  · obtain ⟨a, rfl, hP, hT, q⟩ := h
    rfl
  · obtain ⟨a, rfl, hP, hT, q⟩ := h
    have F_Lof := ok_Lof (P := P) (w := w) (K := K) (mg := mg) (base := base) T
    have F_Ldue := ok_Ldue (P := P) (w := w) (K := K) (mg := mg) (base := base) T
    have F_Lloss := ok_Lloss (P := P) (w := w) (K := K) (mg := mg) (base := base) T
    have F_Lis_raised := ok_Lis_raised (P := P) (w := w) (K := K) (mg := mg) (base := base) T
    have F_Lis_int := ok_Lis_int (P := P) (w := w) (K := K) (mg := mg) (base := base) T
    have F_Llaw_is_word := ok_Llaw_is_word (P := P) (w := w) (K := K) (mg := mg) (base := base) T
    have F_Llaw_is_loss := ok_Llaw_is_loss (P := P) (w := w) (K := K) (mg := mg) (base := base) T
    have F_Lodd := ok_Lodd (P := P) (w := w) (K := K) (mg := mg) (base := base) T
    have F_least := ok_least (P := P) (w := w) (K := K) (mg := mg) (base := base) T
    have F_tail := ok_tail (P := P) (w := w) (K := K) (mg := mg) (base := base) T
    have F_are_alike := ok_are_alike (P := P) (w := w) (K := K) (mg := mg) (base := base) T
    have F_letters_of := ok_letters_of (P := P) (w := w) (K := K) (mg := mg) (base := base) T
    have F_shifted := ok_shifted (P := P) (w := w) (K := K) (mg := mg) (base := base) T
    refine ⟨_, PSs.nox (pss_cons (ps_for PassesOwn.never rfl (pi_range1 (by rfl) T.z_range (pa_cons pe_int pa_nil)) (pg_name (i := 1) sc_Lright.nd rfl (by first | exact Or.inl rfl | exact Or.inr rfl))
        (pss_cons (ps_asg (pe_tup (pa_cons (pe_cl F_Lloss hr (by rfl) pass0 (pa_cons (pv 0) pa_nil)) (pa_cons (pe_cl F_Lloss hr (by rfl) pass0 (pa_cons (pv 0) pa_nil)) pa_nil))) (pg_tup rfl (pgs_cons (pg_name (i := 5) sc_Lright.nd rfl (by first | exact Or.inl rfl | exact Or.inr rfl)) (pgs_cons (pg_name (i := 6) sc_Lright.nd rfl (by first | exact Or.inl rfl | exact Or.inr rfl)) pgs_nil))))
      (pss_cons (ps_asg (pe_lc (own := [("value", 9)]) (g := gName 9) (tt := tYes) rfl sc_Lright.nd (pi_tup (pe_tup (pa_cons (pv 5) (pa_cons (pv 6) pa_nil)))) (blkOk_by (N := ["pot", "lap", "number", "last", "word", "one", "other", "first", "second", "value"]) (sc := defScope s_Lright) (by decide +kernel)) (fun _ _ _ _ _ => (pg_name (i := 9) sc_Lright.nd rfl (by first | exact Or.inl rfl | exact Or.inr rfl))) (fun _ _ _ _ _ => pts_nil) (fun _ _ _ _ _ => (pe_cl F_Ldue hr (by rfl) pass0 (pa_cons (pe_strS [108, 111, 115, 115] (by rfl)) (pa_cons (pe_cl F_Llaw_is_loss hr (by rfl) pass0 (pa_cons (pv 9) pa_nil)) (pa_cons (pv 9) pa_nil)))))) (pg_lst rfl (pgs_cons (pg_name (i := 7) sc_Lright.nd rfl (by first | exact Or.inl rfl | exact Or.inr rfl)) (pgs_cons (pg_name (i := 8) sc_Lright.nd rfl (by first | exact Or.inl rfl | exact Or.inr rfl)) pgs_nil))))
      (pss_cons (ps_if (pt_not (pt_val (pe_lamT F_Lis_raised hgd rfl rfl (TB.at mem_Lright) hcd (tabs_mem mem_Lright) T.u_Lright hr (by rfl) pass0 (by exact (show LamS (defScope s_Lright) _ from lamS_by (by decide +kernel))) (by rfl) (fun _ _ _ _ _ => rfl) (fun A outer s H E f c' hr => (pe_cl F_least hr (by rfl) (passes_call (takes_of rfl rfl rfl rfl) fun _ _ _ _ h => h) (pa_cons (pv 5) pa_nil))) (pa_cons (pv 7) (pa_cons pe_bl pa_nil)) (fun _ _ _ _ => hlen_Lis_raised))))
        (pss_one (ps_ret pe_bl))
        pss_nil)
      (pss_cons (ps_if (pt_not (pt_val (pe_lamT F_Lis_raised hgd rfl rfl (TB.at mem_Lright) hcd (tabs_mem mem_Lright) T.u_Lright hr (by rfl) pass0 (by exact (show LamS (defScope s_Lright) _ from lamS_by (by decide +kernel))) (by rfl) (fun _ _ _ _ _ => rfl) (fun A outer s H E f c' hr => (pe_clK0 F_tail hr (by rfl) (passes_call (takes_of rfl rfl rfl rfl) fun _ _ _ _ h => h) (fun _ _ D => kb_tail_0_loss D) (pk_cons (pv 6) pk_nil))) (pa_cons (pv 8) (pa_cons pe_bl pa_nil)) (fun _ _ _ _ => hlen_Lis_raised))))
        (pss_one (ps_ret pe_bl))
        pss_nil)
      (pss_cons (ps_if (pt_not (pt_val (pe_lamT F_Lis_raised hgd rfl rfl (TB.at mem_Lright) hcd (tabs_mem mem_Lright) T.u_Lright hr (by rfl) pass0 (by exact (show LamS (defScope s_Lright) _ from lamS_by (by decide +kernel))) (by rfl) (fun _ _ _ _ _ => rfl) (fun A outer s H E f c' hr => (pe_clK0 F_are_alike hr (by rfl) (passes_call (takes_of rfl rfl rfl rfl) fun _ _ _ _ h => h) (fun _ _ D => kb_are_alike_0_other_one D) (pk_cons (pv 6) (pk_cons (pv 5) pk_nil)))) (pa_cons (pe_op op_cat (pv 7) (pv 8)) (pa_cons pe_bl pa_nil)) (fun _ _ _ _ => hlen_Lis_raised))))
        (pss_one (ps_ret pe_bl))
        pss_nil)
      (pss_cons (ps_set (i := 2) sc_Lright.nd rfl (by first | exact Or.inl rfl | exact Or.inr rfl) (pe_cl F_Lof hr (by rfl) pass0 (pa_cons (pv 0) (pa_cons (pe_lst (pa_cons pe_int (pa_cons pe_int (pa_cons pe_int (pa_cons pe_int (pa_cons (pe_un un_neg pe_int) (pa_cons pe_bl (pa_cons pe_non (pa_cons (pe_strS [51] (by rfl)) (pa_cons (pe_tup (pa_cons pe_int pa_nil)) (pa_cons (pe_cl F_Lodd hr (by rfl) pass0 (pa_cons (pv 0) pa_nil)) pa_nil))))))))))) pa_nil))))
      (pss_cons (ps_set (i := 3) sc_Lright.nd rfl (by first | exact Or.inl rfl | exact Or.inr rfl) (pe_cl F_Ldue hr (by rfl) pass0 (pa_cons (pe_strS [110, 117, 109, 98, 101, 114] (by rfl)) (pa_cons (pe_cl F_Lis_int hr (by rfl) pass0 (pa_cons (pv 2) (pa_cons pe_int (pa_cons pe_int pa_nil)))) (pa_cons (pv 2) pa_nil)))))
      (pss_cons (ps_if (pt_not (pt_val (pe_lamT F_Lis_raised hgd rfl rfl (TB.at mem_Lright) hcd (tabs_mem mem_Lright) T.u_Lright hr (by rfl) pass0 (by exact (show LamS (defScope s_Lright) _ from lamS_by (by decide +kernel))) (by rfl) (fun _ _ _ _ _ => rfl) (fun A outer s H E f c' hr => (pe_cl F_letters_of hr (by rfl) (passes_call (takes_of rfl rfl rfl rfl) fun _ _ _ _ h => h) (pa_cons (pv 5) (pa_cons (pv 2) pa_nil)))) (pa_cons (pe_op op_cat (pv 7) (pv 3)) (pa_cons pe_bl pa_nil)) (fun _ _ _ _ => hlen_Lis_raised))))
        (pss_one (ps_ret pe_bl))
        pss_nil)
      (pss_cons (ps_set (i := 4) sc_Lright.nd rfl (by first | exact Or.inl rfl | exact Or.inr rfl) (pe_cl F_Lof hr (by rfl) pass0 (pa_cons (pv 0) (pa_cons (pe_lst (pa_cons (pe_strS [] (by rfl)) (pa_cons (pe_strS [110, 102] (by rfl)) (pa_cons (pe_op op_mul_str (pe_strS [115] (by rfl)) pe_int) (pa_cons (pe_op op_mul_str (pe_strS [115] (by rfl)) pe_int) (pa_cons (pe_strS [110, 120] (by rfl)) (pa_cons (pe_strS [78] (by rfl)) (pa_cons pe_non (pa_cons (pe_lst (pa_cons (pe_strS [110] (by rfl)) pa_nil)) (pa_cons (pe_tup (pa_cons (pe_strS [110] (by rfl)) pa_nil)) (pa_cons pe_int (pa_cons (pe_cl F_Lodd hr (by rfl) pass0 (pa_cons (pv 0) pa_nil)) pa_nil)))))))))))) pa_nil))))
      (pss_cons (ps_set (i := 3) sc_Lright.nd rfl (by first | exact Or.inl rfl | exact Or.inr rfl) (pe_cl F_Ldue hr (by rfl) pass0 (pa_cons (pe_strS [119, 111, 114, 100] (by rfl)) (pa_cons (pe_cl F_Llaw_is_word hr (by rfl) pass0 (pa_cons (pv 4) (pa_cons pe_int (pa_cons pe_int pa_nil)))) (pa_cons (pv 4) pa_nil)))))
      (pss_one (ps_if (pt_not (pt_val (pe_lamT F_Lis_raised hgd rfl rfl (TB.at mem_Lright) hcd (tabs_mem mem_Lright) T.u_Lright hr (by rfl) pass0 (by exact (show LamS (defScope s_Lright) _ from lamS_by (by decide +kernel))) (by rfl) (fun _ _ _ _ _ => rfl) (fun A outer s H E f c' hr => (pe_clK0 F_shifted hr (by rfl) (passes_call (takes_of rfl rfl rfl rfl) fun _ _ _ _ h => h) (fun _ _ D => kb_shifted_0_word_loss D) (pk_cons (pv 4) (pk_cons (pv 6) pk_nil)))) (pa_cons (pe_op op_cat (pv 8) (pv 3)) (pa_cons pe_bl pa_nil)) (fun _ _ _ _ => hlen_Lis_raised))))
        (pss_one (ps_ret pe_bl))
        pss_nil)))))))))))))
      (pss_one (ps_ret pe_bl))), ?_⟩
    walk_at "r"
    refine ⟨12, rfl, by decide, by decide, for_range (lo := 0) (n := 12) (fun i σ H' => ∃ y1 y2 y3 y4 y5 y6 y7 y8, σ = [some (.ref a), y1, y2, y3, y4, y5, y6, y7, y8, none] ∧ ButT a H H' ∧ PotAt H' a (1000 * i) ∧ Tabs (tabs K tf) H') ⟨_, _, _, _, _, _, _, _, rfl, ButT.refl, hP.mono (by decide), hT⟩ ?_ ?_⟩
    rotate_left
    · rintro σ G ⟨y1, y2, y3, y4, y5, y6, y7, y8, rfl, b0, P0, T0⟩
      walk_at "r"
      exact q _ b0 T0
    rintro i σ G hi ⟨y1, y2, y3, y4, y5, y6, y7, y8, rfl, b0, P0, T0⟩
    walk_at "r"
    refine ⟨a, _, rfl, P0, by omega, fun H1 xa da b1 P1 Sa => ?_⟩
    have T1 := tabs_pot T0 P0 b1
    walk_at "r"
    refine ⟨a, _, rfl, P1, by omega, fun H2 xb db b2 P2 Sb => ?_⟩
    have T2 := tabs_pot T1 P1 b2
    replace Sa := sml_but b2 P1 Sa
    have b02 := b0.trans (ButT.ofB (b1.trans b2))
    refine ⟨by show 2 ≤ sizeLine; decide, fun p0 hp0 => ?_⟩
    have s0 := same_new hp0 (o := .tup [xa, xb])
    refine r_gTup (SqT.of upd_same) rfl ?_
    walk_at "rs"
    refine r_gCons ?_
    walk_at "rs"
    refine r_gCons ?_
    walk_at "rs"
    refine r_gNil ?_
    walk_at "rq"
    replace Sa := sml_same s0 Sa
    replace Sb := sml_same s0 Sb
    replace P2 := P2.same s0
    replace T2 := tabs_same T2 s0
    replace b02 := b02.trans (ButT.of s0)
    clear s0 hp0 b1 b2 P1 T1
    generalize upd H2 p0 (.tup [xa, xb]) = G2 at *
    obtain ⟨d1, capa, depa, dica⟩ := Sa
    obtain ⟨d2, capb, depb, dicb⟩ := Sb
    refine s_cut (fun σ' H' => ∃ l1 l2, σ' = [some (.ref a), some (.int (0 + (i : Int))), y2, y3, y4, some xa, some xb, some (.ref l1), some (.ref l2), none] ∧ J6 K a H (1000 * (i : Int) + 200 + 200) da db xa xb l1 l2 (dueF (lossD da) nL xa) (dueF (lossD db) nL xb) H') ?_ fun N fin => ?_
    rotate_left
    · walk_at "r"
      refine ⟨by show 2 ≤ sizeLine; decide, fun p1 hp1 => ?_⟩
      have s1 := same_new hp1 (o := .tup [xa, xb])
      have f1 : (upd G2 p1 (.tup [xa, xb])) p1 = some (.tup [xa, xb]) := upd_same
      generalize upd G2 p1 (.tup [xa, xb]) = G3 at *
      refine ⟨_, rfl, ⟨_, SqT.of f1⟩, fun D hD => ?_⟩
      have P3 := P2.same s1
      refine lc_J (n := 2) (fun i H' => Same G3 H' ∧ ∃ l1 l2, H' D = some (.lst ([V.ref l1, V.ref l2].take i)) ∧ (1 ≤ i → l1 ≠ D ∧ DueR a H' l1 (dueF (lossD da) nL xa)) ∧ (2 ≤ i → DueR a H' l2 (dueF (lossD db) nL xb))) ⟨same_new hD, 0, 0, upd_same, fun z => by omega, fun z => by omega⟩ (fun i H' hi e => ?_) (fun H' e => ?_) ?_ ?_
      · rcases (show i = 0 ∨ i = 1 by omega) with rfl | rfl
        · exact ⟨_, xa, SqT.of (e.1 _ _ f1), rfl⟩
        · exact ⟨_, xb, SqT.of (e.1 _ _ f1), rfl⟩
      · exact ⟨_, SqT.of (e.1 _ _ f1), Nat.le_refl _⟩
      · rintro i x H' H'' hi ⟨e, l1, l2, hd, h1, h2⟩ ⟨rfl, f⟩
        have ev := f _ (SqT.of (e _ _ f1))
        rcases (show i = 0 ∨ i = 1 by omega) with rfl | rfl
        · obtain rfl : xa = x := Option.some.inj ev
          walk_at "r"
          refine ⟨rfl, ?_⟩
          walk_at "r"
          refine ⟨xa, da, a, rfl, dat_same (s1.trans e) d1, by omega, fun H5 e5 => ?_⟩
          walk_at "r"
          refine ⟨_, _, _, rfl, fun H6 dl e6 hdl g1 g2 => ?_⟩
          have e56 := e5.trans e6
          have hd6 := e56 _ _ hd
          have nd : dl ≠ D := fun z => by subst z; rw [e5 _ _ hd] at hdl; cases hdl
          refine ⟨_, hd6, (show 0 < sizeLine by decide), Same.mut (e.trans e56) hD, dl, 0, by rw [upd_same]; rfl, fun _ => ⟨nd, ?_⟩, fun z => by omega⟩
          exact (DueR.mk (P3.same (e.trans e5)) hdl g1 g2).mut nd hd6
        · obtain rfl : xb = x := Option.some.inj ev
          obtain ⟨n1, u1⟩ := h1 (by decide)
          walk_at "r"
          refine ⟨rfl, ?_⟩
          walk_at "r"
          refine ⟨xb, db, a, rfl, dat_same (s1.trans e) d2, by omega, fun H5 e5 => ?_⟩
          walk_at "r"
          refine ⟨_, _, _, rfl, fun H6 dl e6 hdl g1 g2 => ?_⟩
          have e56 := e5.trans e6
          have hd6 := e56 _ _ hd
          have nd : dl ≠ D := fun z => by subst z; rw [e5 _ _ hd] at hdl; cases hdl
          refine ⟨_, hd6, (show 1 < sizeLine by decide), Same.mut (e.trans e56) hD, l1, dl, by rw [upd_same]; rfl, fun _ => ⟨n1, (u1.ext (extN_same e56)).mut n1 hd6⟩, fun _ => ?_⟩
          exact (DueR.mk (P3.same (e.trans e5)) hdl g1 g2).mut nd hd6
      · rintro H' ⟨e, l1, l2, hd, h1, h2⟩
        have e2 := s1.trans e
        refine ⟨D, _, rfl, SqL.of hd, rfl, ?_⟩
        walk_at "rs"
        refine r_gCons ?_
        walk_at "rs"
        refine r_gCons ?_
        walk_at "rs"
        refine r_gNil ?_
        exact fin _ _ ⟨l1, l2, rfl, b02.trans (ButT.of e2), P2.same e2, tabs_same T2 e2, dat_same e2 d1, dat_same e2 d2, (h1 (by decide)).2, h2 (by decide)⟩
    clear T2 b02 P2 d1 d2
    rintro σ' G3 ⟨l1, l2, rfl, j⟩
    -- least(one)
    walk_at "rq"
    refine s_cut (fun σ' H' => σ' = [some (.ref a), some (.int (0 + (i : Int))), y2, y3, y4, some xa, some xb, some (.ref l1), some (.ref l2), none] ∧ J6 K a H (1000 * (i : Int) + 200 + 200) da db xa xb l1 l2 (dueF (lossD da) nL xa) (dueF (lossD db) nL xb) H') ?_ fun N fin => ?_
    rotate_left
    · walk_at "r"
      refine r_lamT j.t fun f c' Hc eN Tc hco => ?_
      replace j := j.ext eN Tc
      walk_at "r"
      refine ⟨hco, l1, false, dueF (lossD da) nL xa, rfl, hco, j.u1.due, fun H' e => ?_, rz_one (fun w => ?_) fun w => ?_⟩
      · walk_at "r"
        exact fin _ _ ⟨rfl, j.same e⟩
      · intro H0 E' Q' e0 _ fin2
        walk_at "r"
        exact ⟨xa, da, a, rfl, dat_same e0 j.d1, by omega, fun _ _ _ _ _ e _ _ _ => fin2 _ _ e, fun z => (by rw [w] at z; cases z)⟩
      · refine ⟨_, da, a, .inl ⟨rfl, rfl⟩, j.d1, by omega, by omega, dica, fun H0 E' Q' e0 fin2 => ?_⟩
        walk_at "r"
        exact ⟨xa, da, a, rfl, dat_same e0 j.d1, by omega, fun z => (by rw [w] at z; cases z), fun _ => fin2⟩
    rintro σ' G3 ⟨rfl, j⟩
    -- tail(other)
    walk_at "rq"
    refine s_cut (fun σ' H' => σ' = [some (.ref a), some (.int (0 + (i : Int))), y2, y3, y4, some xa, some xb, some (.ref l1), some (.ref l2), none] ∧ J6 K a H (1000 * (i : Int) + 200 + 200) da db xa xb l1 l2 (dueF (lossD da) nL xa) (dueF (lossD db) nL xb) H') ?_ fun N fin => ?_
    rotate_left
    · walk_at "r"
      refine r_lamT j.t fun f c' Hc eN Tc hco => ?_
      replace j := j.ext eN Tc
      walk_at "r"
      refine ⟨hco, l2, false, dueF (lossD db) nL xb, rfl, hco, j.u2.due, fun H' e => ?_, rz_one (fun w => ?_) fun w => ?_⟩
      · walk_at "r"
        exact fin _ _ ⟨rfl, j.same e⟩
      · intro H0 E' Q' e0 _ fin2
        walk_at "r"
        exact ⟨rfl, rfl, xb, db, a, rfl, dat_same e0 j.d2, by omega, fun _ k H' e => fin2 _ _ e, fun z => (by rw [w] at z; cases z)⟩
      · refine ⟨_, db, a, .inl ⟨rfl, rfl⟩, j.d2, by omega, by omega, dicb, fun H0 E' Q' e0 fin2 => ?_⟩
        walk_at "r"
        exact ⟨rfl, rfl, xb, db, a, rfl, dat_same e0 j.d2, by omega, fun z => (by rw [w] at z; cases z), fun _ => fin2⟩
    rintro σ' G3 ⟨rfl, j⟩
    -- are_alike
    walk_at "rq"
    refine s_cut (fun σ' H' => σ' = [some (.ref a), some (.int (0 + (i : Int))), y2, y3, y4, some xa, some xb, some (.ref l1), some (.ref l2), none] ∧ J6 K a H (1000 * (i : Int) + 200 + 200) da db xa xb l1 l2 (dueF (lossD da) nL xa) (dueF (lossD db) nL xb) H') ?_ fun N fin => ?_
    rotate_left
    · walk_at "r"
      refine r_lamT j.t fun f c' Hc eN Tc hco => ?_
      replace j := j.ext eN Tc
      walk_at "r"
      refine j.u1.cat (K := K) j.u2 fun p hp H' ho hdue => ?_
      obtain ⟨o, rfl⟩ := ho
      have sp := same_new hp (o := o)
      replace j := j.same sp
      replace hco := sp _ _ hco
      generalize upd Hc p o = Hd at *
      walk_at "r"
      refine ⟨hco, p, false, _, rfl, hco, hdue, fun H' e => ?_, rz_two (fun w w' => ?_) (fun w => ?_) fun w w' => ?_⟩
      · walk_at "r"
        exact fin _ _ ⟨rfl, j.same e⟩
      · intro H0 E' Q' e0 _ fin2
        walk_at "r"
        exact ⟨rfl, rfl, xa, xb, da, db, a, rfl, dat_same e0 j.d1, by omega, dat_same e0 j.d2, by omega, fun _ _ k H' e => fin2 _ _ e, fun z => (by rw [w] at z; cases z), fun _ z => (by rw [w'] at z; cases z)⟩
      · refine ⟨_, da, a, .inl ⟨rfl, rfl⟩, j.d1, by omega, by omega, dica, fun H0 E' Q' e0 fin2 => ?_⟩
        walk_at "r"
        exact ⟨rfl, rfl, xa, xb, da, db, a, rfl, dat_same e0 j.d1, by omega, dat_same e0 j.d2, by omega, fun z => (by rw [w] at z; cases z), fun _ => fin2, fun z => (by rw [w] at z; cases z)⟩
      · refine ⟨_, db, a, .inl ⟨rfl, rfl⟩, j.d2, by omega, by omega, dicb, fun H0 E' Q' e0 fin2 => ?_⟩
        walk_at "r"
        exact ⟨rfl, rfl, xa, xb, da, db, a, rfl, dat_same e0 j.d1, by omega, dat_same e0 j.d2, by omega, fun _ z => (by rw [w'] at z; cases z), fun z => (by rw [w] at z; cases z), fun _ _ => fin2⟩
    rintro σ' G4 ⟨rfl, j⟩
    -- number
    walk_at "rq"
    refine s_cut (fun σ' H' => ∃ xn dn, σ' = [some (.ref a), some (.int (0 + (i : Int))), some xn, y3, y4, some xa, some xb, some (.ref l1), some (.ref l2), none] ∧ Sml K a H' 4 20000 dn xn ∧ J6 K a H (1000 * (i : Int) + 402) da db xa xb l1 l2 (dueF (lossD da) nL xa) (dueF (lossD db) nL xb) H') ?_ fun N fin => ?_
    rotate_left
    · have st : St K a 4 20000 G4 _ [] G4 := St.start But.refl j.p
      walk_at "r"
      replace st := st.add (show Sml K a G4 4 20000 (.int 0) (.int 0) from ⟨(dat_int (by decide)), by simp only [cap, capL, capL_app, S_len, List.length_replicate, List.length_cons, List.length_nil, List.length_append]; omega, by simp only [PyData.depth, PyData.depthAll, depthL_app]; omega, fun z => by simp [PyData.hasDict, PyData.hasDictAll, hasDictL_app] at z⟩)
      replace st := st.add (show Sml K a G4 4 20000 (.int 7) (.int 7) from ⟨(dat_int (by decide)), by simp only [cap, capL, capL_app, S_len, List.length_replicate, List.length_cons, List.length_nil, List.length_append]; omega, by simp only [PyData.depth, PyData.depthAll, depthL_app]; omega, fun z => by simp [PyData.hasDict, PyData.hasDictAll, hasDictL_app] at z⟩)
      replace st := st.add (show Sml K a G4 4 20000 (.int 200) (.int 200) from ⟨(dat_int (by decide)), by simp only [cap, capL, capL_app, S_len, List.length_replicate, List.length_cons, List.length_nil, List.length_append]; omega, by simp only [PyData.depth, PyData.depthAll, depthL_app]; omega, fun z => by simp [PyData.hasDict, PyData.hasDictAll, hasDictL_app] at z⟩)
      replace st := st.add (show Sml K a G4 4 20000 (.int 201) (.int 201) from ⟨(dat_int (by decide)), by simp only [cap, capL, capL_app, S_len, List.length_replicate, List.length_cons, List.length_nil, List.length_append]; omega, by simp only [PyData.depth, PyData.depthAll, depthL_app]; omega, fun z => by simp [PyData.hasDict, PyData.hasDictAll, hasDictL_app] at z⟩)
      replace st := st.add (show Sml K a G4 4 20000 (.int (-1)) (.int (-1)) from ⟨(dat_int (by decide)), by simp only [cap, capL, capL_app, S_len, List.length_replicate, List.length_cons, List.length_nil, List.length_append]; omega, by simp only [PyData.depth, PyData.depthAll, depthL_app]; omega, fun z => by simp [PyData.hasDict, PyData.hasDictAll, hasDictL_app] at z⟩)
      replace st := st.add (show Sml K a G4 4 20000 (.bool true) (.bl true) from ⟨dat_bl, by simp only [cap, capL, capL_app, S_len, List.length_replicate, List.length_cons, List.length_nil, List.length_append]; omega, by simp only [PyData.depth, PyData.depthAll, depthL_app]; omega, fun z => by simp [PyData.hasDict, PyData.hasDictAll, hasDictL_app] at z⟩)
      replace st := st.add (show Sml K a G4 4 20000 (.none) (.non) from ⟨dat_non, by simp only [cap, capL, capL_app, S_len, List.length_replicate, List.length_cons, List.length_nil, List.length_append]; omega, by simp only [PyData.depth, PyData.depthAll, depthL_app]; omega, fun z => by simp [PyData.hasDict, PyData.hasDictAll, hasDictL_app] at z⟩)
      replace st := st.add (show Sml K a G4 4 20000 (.str (S [51])) (.str (S [51])) from ⟨(dat_S (by decide)), by simp only [cap, capL, capL_app, S_len, List.length_replicate, List.length_cons, List.length_nil, List.length_append]; omega, by simp only [PyData.depth, PyData.depthAll, depthL_app]; omega, fun z => by simp [PyData.hasDict, PyData.hasDictAll, hasDictL_app] at z⟩)
      walk_at "r"
      refine ⟨by show 1 ≤ sizeLine; decide, fun p101 hp101 => ?_⟩
      have sp101 := same_new hp101 (o := .tup [.int 3])
      have np101 := st.p.fresh hp101
      replace st := st.same sp101
      replace j := j.same sp101
      have Dp101 : Dat K a (upd G4 p101 (.tup [.int 3])) (.tuple [.int 3]) (.ref p101) := dat_tup (SqT.of upd_same) (datL_cons (dat_int (by decide)) datL_nil)
      clear sp101 hp101
      generalize upd G4 p101 (.tup [.int 3]) = Gp101 at st j Dp101 ⊢
      replace st := st.add (show Sml K a Gp101 4 20000 (.tuple [.int 3]) (.ref p101) from ⟨Dp101, by simp only [cap, capL, capL_app, S_len, List.length_replicate, List.length_cons, List.length_nil, List.length_append]; omega, by simp only [PyData.depth, PyData.depthAll, depthL_app]; omega, fun z => by simp [PyData.hasDict, PyData.hasDictAll, hasDictL_app] at z⟩)
      walk_at "r"
      refine ⟨a, _, rfl, st.p, by omega, fun J102 xJ102 dJ102 bJ102 PJ102 SJ102 => ?_⟩
      replace j := j.but bJ102 PJ102
      replace st := st.but bJ102 PJ102
      replace st := st.add (sml_mono SJ102 (by decide) (by first | decide | (simp only [cap, capL, S_len, List.length_cons, List.length_nil]; omega)))
      clear SJ102
      walk_at "r"
      refine ⟨by show 10 ≤ sizeLine; decide, fun p103 hp103 => ?_⟩
      have sp103 := same_new hp103 (o := .lst [.int 0, .int 7, .int 200, .int 201, .int (-1), .bl true, .non, .str (S [51]), .ref p101, xJ102])
      have np103 := st.p.fresh hp103
      replace st := st.same sp103
      replace j := j.same sp103
      have fp103 : (upd J102 p103 (.lst [.int 0, .int 7, .int 200, .int 201, .int (-1), .bl true, .non, .str (S [51]), .ref p101, xJ102])) p103 = some (.lst [.int 0, .int 7, .int 200, .int 201, .int (-1), .bl true, .non, .str (S [51]), .ref p101, xJ102]) := upd_same
      clear sp103 hp103
      generalize upd J102 p103 (.lst [.int 0, .int 7, .int 200, .int 201, .int (-1), .bl true, .non, .str (S [51]), .ref p101, xJ102]) = Gp103 at st j fp103 ⊢
      walk_at "r"
      refine ⟨a, p103, _, _, rfl, st.p, by omega, SqL.of fp103, np103, by simp, by simp, fun Hz x bz Pz hx => ?_⟩
      obtain ⟨d, Sz⟩ := (st.but bz Pz).g x hx
      replace j := j.but bz Pz
      walk_at "r"
      exact fin _ _ ⟨_, _, rfl, Sz, ⟨j.b, j.p.mono (by omega), j.t, j.d1, j.d2, j.u1, j.u2⟩⟩
    rintro σ' G4 ⟨xn, dn, rfl, Sn, j⟩
    obtain ⟨dN, capn, depn, dicn⟩ := Sn
    walk_at "rq"
    refine s_cut (fun σ' H' => ∃ l3 k, σ' = [some (.ref a), some (.int (0 + (i : Int))), some xn, some (.ref l3), y4, some xa, some xb, some (.ref l1), some (.ref l2), none] ∧ (k = true ↔ ∃ i, dn = .int i ∧ 0 ≤ i ∧ i ≤ 200) ∧ Dat K a H' dn xn ∧ DueR a H' l3 (dueF k nN xn) ∧ J6 K a H (1000 * (i : Int) + 402) da db xa xb l1 l2 (dueF (lossD da) nL xa) (dueF (lossD db) nL xb) H') ?_ fun N fin => ?_
    rotate_left
    · walk_at "r"
      refine ⟨xn, dn, a, 0, 200, rfl, dN, fun k hk => ?_⟩
      walk_at "r"
      refine ⟨_, _, _, rfl, fun H6 dl e6 hdl g1 g2 => ?_⟩
      walk_at "r"
      exact fin _ _ ⟨dl, k, rfl, hk, dat_same e6 dN, DueR.mk j.p hdl g1 g2, j.same e6⟩
    clear dN
    rintro σ' G4 ⟨l3, k, rfl, hk, dN, u3, j⟩
    -- letters_of
    walk_at "rq"
    refine s_cut (fun σ' H' => σ' = [some (.ref a), some (.int (0 + (i : Int))), some xn, some (.ref l3), y4, some xa, some xb, some (.ref l1), some (.ref l2), none] ∧ J6 K a H (1000 * (i : Int) + 402) da db xa xb l1 l2 (dueF (lossD da) nL xa) (dueF (lossD db) nL xb) H') ?_ fun N fin => ?_
    rotate_left
    · walk_at "r"
      refine r_lamT j.t fun f c' Hc eN Tc hco => ?_
      replace j := j.ext eN Tc
      replace u3 := u3.ext eN
      replace dN := dat_extN eN dN
      walk_at "r"
      refine j.u1.cat (K := K) u3 fun p hp H' ho hdue => ?_
      obtain ⟨o, rfl⟩ := ho
      have sp := same_new hp (o := o)
      replace j := j.same sp
      replace dN := dat_same sp dN
      replace hco := sp _ _ hco
      generalize upd Hc p o = Hd at *
      walk_at "r"
      refine ⟨hco, p, false, _, rfl, hco, hdue, fun H' e => ?_, rz_two (fun w w' => ?_) (fun w => ?_) fun w w' => ?_⟩
      · walk_at "r"
        exact fin _ _ ⟨rfl, j.same e⟩
      · intro H0 E' Q' e0 _ fin2
        walk_at "r"
        refine ⟨xa, xn, da, dn, a, rfl, dat_same e0 j.d1, by omega, dat_same e0 dN, fun _ _ k H' e => fin2 _ _ e, fun z => (by rw [w] at z; cases z), fun _ z => ?_⟩
        obtain ⟨i, h1, h2⟩ := hk.mp w'
        exact absurd h2 (z i h1)
      · refine ⟨_, da, a, .inl ⟨rfl, rfl⟩, j.d1, by omega, by omega, dica, fun H0 E' Q' e0 fin2 => ?_⟩
        walk_at "r"
        exact ⟨xa, xn, da, dn, a, rfl, dat_same e0 j.d1, by omega, dat_same e0 dN, fun z => (by rw [w] at z; cases z), fun _ => fin2, fun z => (by rw [w] at z; cases z)⟩
      · refine ⟨_, dn, a, .inr (.inr ⟨rfl, rfl⟩), dN, by omega, by omega, dicn, fun H0 E' Q' e0 fin2 => ?_⟩
        walk_at "r"
        refine ⟨xa, xn, da, dn, a, rfl, dat_same e0 j.d1, by omega, dat_same e0 dN, fun _ z => ?_, fun z => (by rw [w] at z; cases z), fun _ _ => fin2⟩
        rw [hk.mpr z] at w'
        cases w'
    clear dN u3 hk
    rintro σ' G5 ⟨rfl, j⟩
    -- word
    walk_at "rq"
    refine s_cut (fun σ' H' => ∃ xw dw, σ' = [some (.ref a), some (.int (0 + (i : Int))), some xn, some (.ref l3), some xw, some xa, some xb, some (.ref l1), some (.ref l2), none] ∧ Sml K a H' 4 20000 dw xw ∧ J6 K a H (1000 * (i : Int) + 404) da db xa xb l1 l2 (dueF (lossD da) nL xa) (dueF (lossD db) nL xb) H') ?_ fun N fin => ?_
    rotate_left
    · have st : St K a 4 20000 G5 _ [] G5 := St.start But.refl j.p
      walk_at "r"
      replace st := st.add (show Sml K a G5 4 20000 (.str (S [])) (.str (S [])) from ⟨(dat_S (by decide)), by simp only [cap, capL, capL_app, S_len, List.length_replicate, List.length_cons, List.length_nil, List.length_append]; omega, by simp only [PyData.depth, PyData.depthAll, depthL_app]; omega, fun z => by simp [PyData.hasDict, PyData.hasDictAll, hasDictL_app] at z⟩)
      replace st := st.add (show Sml K a G5 4 20000 (.str (S [110, 102])) (.str (S [110, 102])) from ⟨(dat_S (by decide)), by simp only [cap, capL, capL_app, S_len, List.length_replicate, List.length_cons, List.length_nil, List.length_append]; omega, by simp only [PyData.depth, PyData.depthAll, depthL_app]; omega, fun z => by simp [PyData.hasDict, PyData.hasDictAll, hasDictL_app] at z⟩)
      walk_at "r"
      refine r_mulS (a := [115]) (n := 200) (by decide) (by decide) ?_
      rw [rep_one]
      replace st := st.add (show Sml K a G5 4 20000 (.str (S (List.replicate 200 115))) (.str (S (List.replicate 200 115))) from ⟨(dat_W (asc_rep (by decide))), by simp only [cap, capL, capL_app, S_len, List.length_replicate, List.length_cons, List.length_nil, List.length_append]; omega, by simp only [PyData.depth, PyData.depthAll, depthL_app]; omega, fun z => by simp [PyData.hasDict, PyData.hasDictAll, hasDictL_app] at z⟩)
      walk_at "r"
      refine r_mulS (a := [115]) (n := 201) (by decide) (by decide) ?_
      rw [rep_one]
      replace st := st.add (show Sml K a G5 4 20000 (.str (S (List.replicate 201 115))) (.str (S (List.replicate 201 115))) from ⟨(dat_W (asc_rep (by decide))), by simp only [cap, capL, capL_app, S_len, List.length_replicate, List.length_cons, List.length_nil, List.length_append]; omega, by simp only [PyData.depth, PyData.depthAll, depthL_app]; omega, fun z => by simp [PyData.hasDict, PyData.hasDictAll, hasDictL_app] at z⟩)
      replace st := st.add (show Sml K a G5 4 20000 (.str (S [110, 120])) (.str (S [110, 120])) from ⟨(dat_S (by decide)), by simp only [cap, capL, capL_app, S_len, List.length_replicate, List.length_cons, List.length_nil, List.length_append]; omega, by simp only [PyData.depth, PyData.depthAll, depthL_app]; omega, fun z => by simp [PyData.hasDict, PyData.hasDictAll, hasDictL_app] at z⟩)
      replace st := st.add (show Sml K a G5 4 20000 (.str (S [78])) (.str (S [78])) from ⟨(dat_S (by decide)), by simp only [cap, capL, capL_app, S_len, List.length_replicate, List.length_cons, List.length_nil, List.length_append]; omega, by simp only [PyData.depth, PyData.depthAll, depthL_app]; omega, fun z => by simp [PyData.hasDict, PyData.hasDictAll, hasDictL_app] at z⟩)
      replace st := st.add (show Sml K a G5 4 20000 (.none) (.non) from ⟨dat_non, by simp only [cap, capL, capL_app, S_len, List.length_replicate, List.length_cons, List.length_nil, List.length_append]; omega, by simp only [PyData.depth, PyData.depthAll, depthL_app]; omega, fun z => by simp [PyData.hasDict, PyData.hasDictAll, hasDictL_app] at z⟩)
      walk_at "r"
      refine ⟨by show 1 ≤ sizeLine; decide, fun p201 hp201 => ?_⟩
      have sp201 := same_new hp201 (o := .lst [.str (S [110])])
      have np201 := st.p.fresh hp201
      replace st := st.same sp201
      replace j := j.same sp201
      have Dp201 : Dat K a (upd G5 p201 (.lst [.str (S [110])])) (.list [.str (S [110])]) (.ref p201) := dat_lst np201 (SqL.of upd_same) (datL_cons (dat_S (by decide)) datL_nil)
      clear sp201 hp201
      generalize upd G5 p201 (.lst [.str (S [110])]) = Gp201 at st j Dp201 ⊢
      replace st := st.add (show Sml K a Gp201 4 20000 (.list [.str (S [110])]) (.ref p201) from ⟨Dp201, by simp only [cap, capL, capL_app, S_len, List.length_replicate, List.length_cons, List.length_nil, List.length_append]; omega, by simp only [PyData.depth, PyData.depthAll, depthL_app]; omega, fun z => by simp [PyData.hasDict, PyData.hasDictAll, hasDictL_app] at z⟩)
      walk_at "r"
      refine ⟨by show 1 ≤ sizeLine; decide, fun p202 hp202 => ?_⟩
      have sp202 := same_new hp202 (o := .tup [.str (S [110])])
      have np202 := st.p.fresh hp202
      replace st := st.same sp202
      replace j := j.same sp202
      have Dp202 : Dat K a (upd Gp201 p202 (.tup [.str (S [110])])) (.tuple [.str (S [110])]) (.ref p202) := dat_tup (SqT.of upd_same) (datL_cons (dat_S (by decide)) datL_nil)
      clear sp202 hp202
      generalize upd Gp201 p202 (.tup [.str (S [110])]) = Gp202 at st j Dp202 ⊢
      replace st := st.add (show Sml K a Gp202 4 20000 (.tuple [.str (S [110])]) (.ref p202) from ⟨Dp202, by simp only [cap, capL, capL_app, S_len, List.length_replicate, List.length_cons, List.length_nil, List.length_append]; omega, by simp only [PyData.depth, PyData.depthAll, depthL_app]; omega, fun z => by simp [PyData.hasDict, PyData.hasDictAll, hasDictL_app] at z⟩)
      replace st := st.add (show Sml K a Gp202 4 20000 (.int 7) (.int 7) from ⟨(dat_int (by decide)), by simp only [cap, capL, capL_app, S_len, List.length_replicate, List.length_cons, List.length_nil, List.length_append]; omega, by simp only [PyData.depth, PyData.depthAll, depthL_app]; omega, fun z => by simp [PyData.hasDict, PyData.hasDictAll, hasDictL_app] at z⟩)
      walk_at "r"
      refine ⟨a, _, rfl, st.p, by omega, fun J203 xJ203 dJ203 bJ203 PJ203 SJ203 => ?_⟩
      replace j := j.but bJ203 PJ203
      replace st := st.but bJ203 PJ203
      replace st := st.add (sml_mono SJ203 (by decide) (by first | decide | (simp only [cap, capL, S_len, List.length_cons, List.length_nil]; omega)))
      clear SJ203
      walk_at "r"
      refine ⟨by show 11 ≤ sizeLine; decide, fun p204 hp204 => ?_⟩
      have sp204 := same_new hp204 (o := .lst [.str (S []), .str (S [110, 102]), .str (S (List.replicate 200 115)), .str (S (List.replicate 201 115)), .str (S [110, 120]), .str (S [78]), .non, .ref p201, .ref p202, .int 7, xJ203])
      have np204 := st.p.fresh hp204
      replace st := st.same sp204
      replace j := j.same sp204
      have fp204 : (upd J203 p204 (.lst [.str (S []), .str (S [110, 102]), .str (S (List.replicate 200 115)), .str (S (List.replicate 201 115)), .str (S [110, 120]), .str (S [78]), .non, .ref p201, .ref p202, .int 7, xJ203])) p204 = some (.lst [.str (S []), .str (S [110, 102]), .str (S (List.replicate 200 115)), .str (S (List.replicate 201 115)), .str (S [110, 120]), .str (S [78]), .non, .ref p201, .ref p202, .int 7, xJ203]) := upd_same
      clear sp204 hp204
      generalize upd J203 p204 (.lst [.str (S []), .str (S [110, 102]), .str (S (List.replicate 200 115)), .str (S (List.replicate 201 115)), .str (S [110, 120]), .str (S [78]), .non, .ref p201, .ref p202, .int 7, xJ203]) = Gp204 at st j fp204 ⊢
      walk_at "r"
      refine ⟨a, p204, _, _, rfl, st.p, by omega, SqL.of fp204, np204, by simp, by simp, fun Hz x bz Pz hx => ?_⟩
      obtain ⟨d, Sz⟩ := (st.but bz Pz).g x hx
      replace j := j.but bz Pz
      walk_at "r"
      exact fin _ _ ⟨_, _, rfl, Sz, ⟨j.b, j.p.mono (by omega), j.t, j.d1, j.d2, j.u1, j.u2⟩⟩
    rintro σ' G5 ⟨xw, dw, rfl, Sw, j⟩
    obtain ⟨dW, capw, depw, dicw⟩ := Sw
    walk_at "rq"
    refine s_cut (fun σ' H' => ∃ l4, σ' = [some (.ref a), some (.int (0 + (i : Int))), some xn, some (.ref l4), some xw, some xa, some xb, some (.ref l1), some (.ref l2), none] ∧ Dat K a H' dw xw ∧ DueR a H' l4 (dueF (wdD 0 200 dw) nW xw) ∧ J6 K a H (1000 * (i : Int) + 404) da db xa xb l1 l2 (dueF (lossD da) nL xa) (dueF (lossD db) nL xb) H') ?_ fun N fin => ?_
    rotate_left
    · walk_at "r"
      refine ⟨xw, dw, a, 0, 200, rfl, dW, by omega, fun H5 e5 => ?_⟩
      walk_at "r"
      refine ⟨_, _, _, rfl, fun H6 dl e6 hdl g1 g2 => ?_⟩
      walk_at "r"
      exact fin _ _ ⟨dl, rfl, dat_same (e5.trans e6) dW, DueR.mk (j.p.same e5) hdl g1 g2, j.same (e5.trans e6)⟩
    clear dW
    rintro σ' G5 ⟨l4, rfl, dW, u4, j⟩
    -- shifted
    walk_at "r"
    refine r_lamT j.t fun f c' Hc eN Tc hco => ?_
    replace j := j.ext eN Tc
    replace u4 := u4.ext eN
    replace dW := dat_extN eN dW
    walk_at "r"
    refine j.u2.cat (K := K) u4 fun p hp H' ho hdue => ?_
    obtain ⟨o, rfl⟩ := ho
    have sp := same_new hp (o := o)
    replace j := j.same sp
    replace dW := dat_same sp dW
    replace hco := sp _ _ hco
    generalize upd Hc p o = Hd at *
    walk_at "r"
    refine ⟨hco, p, true, _, rfl, hco, hdue, fun H' e => ?_, rz_two (fun w w' => ?_) (fun w => ?_) fun w w' => ?_⟩
    · walk_at "r"
      have jj := j.same e
      exact ⟨_, _, _, _, _, _, _, _, rfl, jj.b, jj.p.mono (by omega), jj.t⟩
    · intro H0 E' Q' e0 fin1 fin2
      walk_at "r"
      exact ⟨rfl, rfl, xb, xw, db, dw, a, rfl, dat_same e0 j.d2, by omega, dat_same e0 dW, by omega, fun _ _ => ⟨fun k H' e => fin2 _ _ e, fun v H' p e hp hx => fin1 rfl v H' p e hp hx⟩, fun z => (by rw [w] at z; cases z), fun _ z => (by rw [w'] at z; cases z)⟩
    · refine ⟨_, db, a, .inl ⟨rfl, rfl⟩, j.d2, by omega, by omega, dicb, fun H0 E' Q' e0 fin2 => ?_⟩
      walk_at "r"
      exact ⟨rfl, rfl, xb, xw, db, dw, a, rfl, dat_same e0 j.d2, by omega, dat_same e0 dW, by omega, fun z => (by rw [w] at z; cases z), fun _ => fin2, fun z => (by rw [w] at z; cases z)⟩
    · refine ⟨_, dw, a, .inr (.inl ⟨rfl, rfl⟩), dW, by omega, by omega, dicw, fun H0 E' Q' e0 fin2 => ?_⟩
      walk_at "r"
      exact ⟨rfl, rfl, xb, xw, db, dw, a, rfl, dat_same e0 j.d2, by omega, dat_same e0 dW, by omega, fun _ z => (by rw [w'] at z; cases z), fun z => (by rw [w] at z; cases z), fun _ _ => fin2⟩
def sp_law (K : PySem.W.Frag) : Sp := fun vs H Q _ => ∃ (a : Addr) (ns : List Int), vs = [.ref a] ∧ SqL K H a (ns.map V.int) ∧ ns.length ≤ 63 ∧ Tabs (tabs K tf) H ∧ ∀ H', Q (.bl true) H'
theorem ok_law (T : Txt K mg) (TB : TBs K mg base tf) : OkG P w K mg base (17) "law" s_law ["script"] (sp_law K) := by
  obtain ⟨fd, D⟩ := T.d_law
  refine okG_of T.g_law D (D.bindsN (fun _ _ _ _ _ _ us hl => match us, hl with | [_], _ => rfl)) sc_law (fun vs H Q E h => ?_) (fun cdv A outer s H vs Q E hgd hcd hr h => ?_)
  · obtain ⟨a, ns, rfl, hS, hlen, hT, q⟩ := h
    rfl
  · obtain ⟨a, ns, rfl, hS, hlen, hT, q⟩ := h
    have F_Lright := ok_Lright (P := P) (w := w) (K := K) (mg := mg) (base := base) T TB
    have F_Lpot := ok_Lpot (P := P) (w := w) (K := K) (mg := mg) (base := base) T
    refine ⟨_, PSs.nox (pss_one (ps_ret (pe_clG (E := E0) F_Lright hgd hr (by rfl) (pa_cons (pe_cl F_Lpot hr (by rfl) pass0 (pa_cons (pv 0) (pa_cons pe_int pa_nil))) pa_nil)))), ?_⟩
    walk_at "r"
    refine ⟨a, ns, 0, rfl, hS, by decide, fun G3 pt e3 hpt P3 => ?_⟩
    walk_at "r"
    exact ⟨pt, rfl, P3, hT.ext e3, fun G4 e4 T4 => q _⟩


end
/-! ### the head -/
def d_Lpot : He.DefD := ⟨("_law_pot", none), "_law_pot", "_law_pot", defArgs s_Lpot, defBody s_Lpot, defScope s_Lpot, [], []⟩
def d_Ltake : He.DefD := ⟨("_law_take", none), "_law_take", "_law_take", defArgs s_Ltake, defBody s_Ltake, defScope s_Ltake, [], []⟩
def d_Lof : He.DefD := ⟨("_law_of", none), "_law_of", "_law_of", defArgs s_Lof, defBody s_Lof, defScope s_Lof, [], []⟩
def d_Lodd : He.DefD := ⟨("_law_odd", none), "_law_odd", "_law_odd", defArgs s_Lodd, defBody s_Lodd, defScope s_Lodd, [], []⟩
def d_Lsome : He.DefD := ⟨("_law_some", none), "_law_some", "_law_some", defArgs s_Lsome, defBody s_Lsome, defScope s_Lsome, [], []⟩
def d_Lbent : He.DefD := ⟨("_law_bent", none), "_law_bent", "_law_bent", defArgs s_Lbent, defBody s_Lbent, defScope s_Lbent, [], []⟩
def d_is_made_of_fates : He.DefD := ⟨("is_made_of_fates", none), "is_made_of_fates", "is_made_of_fates", defArgs s_is_made_of_fates, defBody s_is_made_of_fates, defScope s_is_made_of_fates, [], []⟩
def d_is_word : He.DefD := ⟨("is_word", none), "is_word", "is_word", defArgs s_is_word, defBody s_is_word, defScope s_is_word, [], []⟩
def d_need_word : He.DefD := ⟨("need_word", none), "need_word", "need_word", defArgs s_need_word, defBody s_need_word, defScope s_need_word, [], []⟩
def d_is_whole : He.DefD := ⟨("is_whole", none), "is_whole", "is_whole", defArgs s_is_whole, defBody s_is_whole, defScope s_is_whole, [], []⟩
def d_need_number : He.DefD := ⟨("need_number", none), "need_number", "need_number", defArgs s_need_number, defBody s_need_number, defScope s_need_number, [], []⟩
def d_is_long_loss : He.DefD := ⟨("is_long_loss", none), "is_long_loss", "is_long_loss", defArgs s_is_long_loss, defBody s_is_long_loss, defScope s_is_long_loss, [], []⟩
def d_is_loss : He.DefD := ⟨("is_loss", none), "is_loss", "is_loss", defArgs s_is_loss, defBody s_is_loss, defScope s_is_loss, [], []⟩
def d_need_loss : He.DefD := ⟨("need_loss", none), "need_loss", "need_loss", defArgs s_need_loss, defBody s_need_loss, defScope s_need_loss, [], []⟩
def d_shortest_ring : He.DefD := ⟨("shortest_ring", none), "shortest_ring", "shortest_ring", defArgs s_shortest_ring, defBody s_shortest_ring, defScope s_shortest_ring, [], []⟩
def d_least_form : He.DefD := ⟨("least_form", none), "least_form", "least_form", defArgs s_least_form, defBody s_least_form, defScope s_least_form, [], []⟩
def d_first_letters : He.DefD := ⟨("first_letters", none), "first_letters", "first_letters", defArgs s_first_letters, defBody s_first_letters, defScope s_first_letters, [], []⟩
def d_least : He.DefD := ⟨("least", none), "least", "least", defArgs s_least, defBody s_least, defScope s_least, [], []⟩
def d_are_alike : He.DefD := ⟨("are_alike", none), "are_alike", "are_alike", defArgs s_are_alike, defBody s_are_alike, defScope s_are_alike, [], []⟩
def d_letters_of : He.DefD := ⟨("letters_of", none), "letters_of", "letters_of", defArgs s_letters_of, defBody s_letters_of, defScope s_letters_of, [], []⟩
def d_tail : He.DefD := ⟨("tail", none), "tail", "tail", defArgs s_tail, defBody s_tail, defScope s_tail, [], []⟩
def d_shifted : He.DefD := ⟨("shifted", none), "shifted", "shifted", defArgs s_shifted, defBody s_shifted, defScope s_shifted, [], []⟩
def d_Lheard : He.DefD := ⟨("_law_heard", none), "_law_heard", "_law_heard", defArgs s_Lheard, defBody s_Lheard, defScope s_Lheard, [], []⟩
def d_Lis_int : He.DefD := ⟨("_law_is_int", none), "_law_is_int", "_law_is_int", defArgs s_Lis_int, defBody s_Lis_int, defScope s_Lis_int, [], []⟩
def d_Llaw_is_word : He.DefD := ⟨("_law_law_is_word", none), "_law_law_is_word", "_law_law_is_word", defArgs s_Llaw_is_word, defBody s_Llaw_is_word, defScope s_Llaw_is_word, [], []⟩
def d_Llaw_is_loss : He.DefD := ⟨("_law_law_is_loss", none), "_law_law_is_loss", "_law_law_is_loss", defArgs s_Llaw_is_loss, defBody s_Llaw_is_loss, defScope s_Llaw_is_loss, [], []⟩
def d_Llaw_word_drawn : He.DefD := ⟨("_law_law_word_drawn", none), "_law_law_word_drawn", "_law_law_word_drawn", defArgs s_Llaw_word_drawn, defBody s_Llaw_word_drawn, defScope s_Llaw_word_drawn, [], []⟩
def d_Llaw_loss_drawn : He.DefD := ⟨("_law_law_loss_drawn", none), "_law_law_loss_drawn", "_law_law_loss_drawn", defArgs s_Llaw_loss_drawn, defBody s_Llaw_loss_drawn, defScope s_Llaw_loss_drawn, [], []⟩
def d_Ldue : He.DefD := ⟨("_law_due", none), "_law_due", "_law_due", defArgs s_Ldue, defBody s_Ldue, defScope s_Ldue, [], []⟩
def d_Lis_raised : He.DefD := ⟨("_law_is_raised", none), "_law_is_raised", "_law_is_raised", defArgs s_Lis_raised, defBody s_Lis_raised, defScope s_Lis_raised, [], []⟩
def d_Lloss : He.DefD := ⟨("_law_loss", none), "_law_loss", "_law_loss", defArgs s_Lloss, defBody s_Lloss, defScope s_Lloss, [], []⟩
def d_Lright : He.DefD := ⟨("_law_right", none), "_law_right", "_law_right", defArgs s_Lright, defBody s_Lright, defScope s_Lright, [], []⟩
def d_law : He.DefD := ⟨("law", none), "law", "law", defArgs s_law, defBody s_law, defScope s_law, [], []⟩
def d_init : He.DefD := ⟨("PlayError", some "__init__"), "__init__", "PlayError.__init__", defArgs s_init, defBody s_init, defScope s_init, [], []⟩
def fn : List He.DefD := [d_Lpot, d_Ltake, d_Lof, d_Lodd, d_Lsome, d_Lbent, d_is_made_of_fates, d_is_word, d_need_word, d_is_whole, d_need_number, d_is_long_loss, d_is_loss, d_need_loss, d_shortest_ring, d_least_form, d_first_letters, d_least, d_are_alike, d_letters_of, d_tail, d_shifted, d_Lheard, d_Lis_int, d_Llaw_is_word, d_Llaw_is_loss, d_Llaw_word_drawn, d_Llaw_loss_drawn, d_Ldue, d_Lis_raised, d_Lloss, d_Lright, d_law, d_init]
def fa : List He.Fa := [.glo "_law_pot", .glo "_law_take", .glo "_law_of", .glo "_law_odd", .glo "_law_some", .glo "_law_bent", .glo "is_made_of_fates", .glo "is_word", .glo "need_word", .glo "is_whole", .glo "need_number", .glo "is_long_loss", .glo "is_loss", .glo "need_loss", .glo "shortest_ring", .glo "least_form", .glo "first_letters", .glo "least", .glo "are_alike", .glo "letters_of", .glo "tail", .glo "shifted", .glo "_law_heard", .glo "_law_is_int", .glo "_law_law_is_word", .glo "_law_law_is_loss", .glo "_law_law_word_drawn", .glo "_law_law_loss_drawn", .glo "_law_due", .glo "_law_is_raised", .glo "_law_loss", .glo "_law_right", .glo "law", .str "FATES" "nfs", .int "MOST_FATES" 200, .glo "BadLoss", .glo "BadNumber", .glo "BadWord", .glo "PlayError", .glo "TooLong", .exm "BadLoss" "PlayError" true, .exm "BadNumber" "PlayError" true, .exm "BadWord" "PlayError" true, .exm "TooLong" "PlayError" true, .free "abs", .free "all", .free "bool", .free "int", .free "isinstance", .free "len", .free "list", .free "range", .free "repr", .free "str", .free "sum", .free "tuple", .free "type"]
def exl (K : PySem.W.Frag) : List Bool := [apartB K tf,
  eclsB K (He.ga K "BadLoss") (He.ma K (He.ga K "PlayError") "__init__"),
  eclsB K (He.ga K "BadNumber") (He.ma K (He.ga K "PlayError") "__init__"),
  eclsB K (He.ga K "BadWord") (He.ma K (He.ga K "PlayError") "__init__"),
  eclsB K (He.ga K "TooLong") (He.ma K (He.ga K "PlayError") "__init__"),
  decide (PySem.W.kitOne K (.type "NoneType") (.ref (He.ga K "BadLoss")) = some false),
  decide (PySem.W.kitOne K (.ref (He.ga K "BadLoss")) (.ref (He.ga K "BadLoss")) = some true),
  decide (PySem.W.kitOne K (.ref (He.ga K "BadNumber")) (.ref (He.ga K "BadLoss")) = some false),
  decide (PySem.W.kitOne K (.ref (He.ga K "BadWord")) (.ref (He.ga K "BadLoss")) = some false),
  decide (PySem.W.kitOne K (.ref (He.ga K "TooLong")) (.ref (He.ga K "BadLoss")) = some false),
  decide (PySem.W.kitOne K (.type "NoneType") (.ref (He.ga K "BadNumber")) = some false),
  decide (PySem.W.kitOne K (.ref (He.ga K "BadLoss")) (.ref (He.ga K "BadNumber")) = some false),
  decide (PySem.W.kitOne K (.ref (He.ga K "BadNumber")) (.ref (He.ga K "BadNumber")) = some true),
  decide (PySem.W.kitOne K (.ref (He.ga K "BadWord")) (.ref (He.ga K "BadNumber")) = some false),
  decide (PySem.W.kitOne K (.ref (He.ga K "TooLong")) (.ref (He.ga K "BadNumber")) = some false),
  decide (PySem.W.kitOne K (.type "NoneType") (.ref (He.ga K "BadWord")) = some false),
  decide (PySem.W.kitOne K (.ref (He.ga K "BadLoss")) (.ref (He.ga K "BadWord")) = some false),
  decide (PySem.W.kitOne K (.ref (He.ga K "BadNumber")) (.ref (He.ga K "BadWord")) = some false),
  decide (PySem.W.kitOne K (.ref (He.ga K "BadWord")) (.ref (He.ga K "BadWord")) = some true),
  decide (PySem.W.kitOne K (.ref (He.ga K "TooLong")) (.ref (He.ga K "BadWord")) = some false),
  decide (PySem.W.kitOne K (.type "NoneType") (.ref (He.ga K "TooLong")) = some false),
  decide (PySem.W.kitOne K (.ref (He.ga K "BadLoss")) (.ref (He.ga K "TooLong")) = some false),
  decide (PySem.W.kitOne K (.ref (He.ga K "BadNumber")) (.ref (He.ga K "TooLong")) = some false),
  decide (PySem.W.kitOne K (.ref (He.ga K "BadWord")) (.ref (He.ga K "TooLong")) = some false),
  decide (PySem.W.kitOne K (.ref (He.ga K "TooLong")) (.ref (He.ga K "TooLong")) = some true)]
def ex (K : PySem.W.Frag) : Bool := (exl K).all id
abbrev R : PySem.W.OpenRow := PySem.W.OpenLaw.row PySem.Challenge.rw_twofarplayers_k06_losses_words_and_numbe
abbrev hk : PySem.W.Hook := He.hookX 4 fa fn [] tf ex
def ob (s : PySem.W.SharedT) : He.AlX := He.obsX 4 fa fn [] tf ex (HandSHeadRun.getT s)
theorem ob_eq (s : PySem.W.SharedT) : ob s = hk.obs s.abs := He.obsX_eq (HandSHeadRun.getT_eq s)
def loose0 : List Str := ["PlayError", "BadWord", "BadLoss", "BadNumber", "TooLong", "FATES", "MOST_FATES", "is_whole", "is_made_of_fates", "is_word", "is_long_loss", "is_loss", "need_word", "need_loss", "need_number", "shortest_ring", "least_form", "first_letters", "least", "are_alike", "letters_of", "tail", "shifted", "_law_pot", "_law_take", "_law_of", "_law_some", "_law_heard", "_law_is_int", "_law_law_is_word"]
def loose1 : List Str := ["_law_law_is_loss", "_law_law_word_drawn", "_law_law_loss_drawn", "_law_odd", "_law_bent", "_law_bent_line", "_law_bent_text", "_law_same", "_law_loss", "_law_is_raised", "_law_due", "_law_right"]
def loose : List Str := loose0 ++ loose1
theorem run (w : World) : HandSHeadRun.RunEq R (PySem.W.view R.prog [46]) hk ob 20000 loose w := by
  intro os
  kernel_rfl
theorem txt {K : PySem.W.Frag} {h : Heap} {mg : Str → Option Value} {w : World} (X : K.In h) (G : h.Ns mainGlobals mg) (cX : He.SaysX fa fn [] tf ex w h K) : Txt K mg := by
  have c := cX.t.d
  exact ⟨c.def_ 0 (d := d_Lpot) rfl,
    He.glo_ok X G (c.fact 0 (f := .glo "_law_pot") rfl),
    c.def_ 1 (d := d_Ltake) rfl,
    He.glo_ok X G (c.fact 1 (f := .glo "_law_take") rfl),
    c.def_ 2 (d := d_Lof) rfl,
    He.glo_ok X G (c.fact 2 (f := .glo "_law_of") rfl),
    c.def_ 3 (d := d_Lodd) rfl,
    He.glo_ok X G (c.fact 3 (f := .glo "_law_odd") rfl),
    c.def_ 4 (d := d_Lsome) rfl,
    He.glo_ok X G (c.fact 4 (f := .glo "_law_some") rfl),
    c.def_ 5 (d := d_Lbent) rfl,
    He.glo_ok X G (c.fact 5 (f := .glo "_law_bent") rfl),
    c.def_ 6 (d := d_is_made_of_fates) rfl,
    He.glo_ok X G (c.fact 6 (f := .glo "is_made_of_fates") rfl),
    c.def_ 7 (d := d_is_word) rfl,
    He.glo_ok X G (c.fact 7 (f := .glo "is_word") rfl),
    c.def_ 8 (d := d_need_word) rfl,
    He.glo_ok X G (c.fact 8 (f := .glo "need_word") rfl),
    c.def_ 9 (d := d_is_whole) rfl,
    He.glo_ok X G (c.fact 9 (f := .glo "is_whole") rfl),
    c.def_ 10 (d := d_need_number) rfl,
    He.glo_ok X G (c.fact 10 (f := .glo "need_number") rfl),
    c.def_ 11 (d := d_is_long_loss) rfl,
    He.glo_ok X G (c.fact 11 (f := .glo "is_long_loss") rfl),
    c.def_ 12 (d := d_is_loss) rfl,
    He.glo_ok X G (c.fact 12 (f := .glo "is_loss") rfl),
    c.def_ 13 (d := d_need_loss) rfl,
    He.glo_ok X G (c.fact 13 (f := .glo "need_loss") rfl),
    c.def_ 14 (d := d_shortest_ring) rfl,
    He.glo_ok X G (c.fact 14 (f := .glo "shortest_ring") rfl),
    c.def_ 15 (d := d_least_form) rfl,
    He.glo_ok X G (c.fact 15 (f := .glo "least_form") rfl),
    c.def_ 16 (d := d_first_letters) rfl,
    He.glo_ok X G (c.fact 16 (f := .glo "first_letters") rfl),
    c.def_ 17 (d := d_least) rfl,
    He.glo_ok X G (c.fact 17 (f := .glo "least") rfl),
    c.def_ 18 (d := d_are_alike) rfl,
    He.glo_ok X G (c.fact 18 (f := .glo "are_alike") rfl),
    c.def_ 19 (d := d_letters_of) rfl,
    He.glo_ok X G (c.fact 19 (f := .glo "letters_of") rfl),
    c.def_ 20 (d := d_tail) rfl,
    He.glo_ok X G (c.fact 20 (f := .glo "tail") rfl),
    c.def_ 21 (d := d_shifted) rfl,
    He.glo_ok X G (c.fact 21 (f := .glo "shifted") rfl),
    c.def_ 22 (d := d_Lheard) rfl,
    He.glo_ok X G (c.fact 22 (f := .glo "_law_heard") rfl),
    c.def_ 23 (d := d_Lis_int) rfl,
    He.glo_ok X G (c.fact 23 (f := .glo "_law_is_int") rfl),
    c.def_ 24 (d := d_Llaw_is_word) rfl,
    He.glo_ok X G (c.fact 24 (f := .glo "_law_law_is_word") rfl),
    c.def_ 25 (d := d_Llaw_is_loss) rfl,
    He.glo_ok X G (c.fact 25 (f := .glo "_law_law_is_loss") rfl),
    c.def_ 26 (d := d_Llaw_word_drawn) rfl,
    He.glo_ok X G (c.fact 26 (f := .glo "_law_law_word_drawn") rfl),
    c.def_ 27 (d := d_Llaw_loss_drawn) rfl,
    He.glo_ok X G (c.fact 27 (f := .glo "_law_law_loss_drawn") rfl),
    c.def_ 28 (d := d_Ldue) rfl,
    He.glo_ok X G (c.fact 28 (f := .glo "_law_due") rfl),
    c.def_ 29 (d := d_Lis_raised) rfl,
    He.glo_ok X G (c.fact 29 (f := .glo "_law_is_raised") rfl),
    c.def_ 30 (d := d_Lloss) rfl,
    He.glo_ok X G (c.fact 30 (f := .glo "_law_loss") rfl),
    c.def_ 31 (d := d_Lright) rfl,
    He.glo_ok X G (c.fact 31 (f := .glo "_law_right") rfl),
    c.def_ 32 (d := d_law) rfl,
    He.glo_ok X G (c.fact 32 (f := .glo "law") rfl),
    He.str_ok X G (c.fact 33 (f := .str "FATES" "nfs") rfl),
    He.int_ok X G (c.fact 34 (f := .int "MOST_FATES" 200) rfl),
    apart_ok (Tf.all_at cX.more 0 rfl) mem_Lright,
    c.def_ 33 (d := d_init) rfl,
    He.glo_ok X G (c.fact 35 (f := .glo "BadLoss") rfl),
    He.glo_ok X G (c.fact 36 (f := .glo "BadNumber") rfl),
    He.glo_ok X G (c.fact 37 (f := .glo "BadWord") rfl),
    He.glo_ok X G (c.fact 38 (f := .glo "PlayError") rfl),
    He.glo_ok X G (c.fact 39 (f := .glo "TooLong") rfl),
    ecls_ok (Tf.all_at cX.more 1 rfl),
    He.exm_ok (c.fact 40 (f := .exm "BadLoss" "PlayError" true) rfl),
    ecls_ok (Tf.all_at cX.more 2 rfl),
    He.exm_ok (c.fact 41 (f := .exm "BadNumber" "PlayError" true) rfl),
    ecls_ok (Tf.all_at cX.more 3 rfl),
    He.exm_ok (c.fact 42 (f := .exm "BadWord" "PlayError" true) rfl),
    ecls_ok (Tf.all_at cX.more 4 rfl),
    He.exm_ok (c.fact 43 (f := .exm "TooLong" "PlayError" true) rfl),
    of_decide_eq_true (Tf.all_at cX.more 5 rfl),
    of_decide_eq_true (Tf.all_at cX.more 6 rfl),
    of_decide_eq_true (Tf.all_at cX.more 7 rfl),
    of_decide_eq_true (Tf.all_at cX.more 8 rfl),
    of_decide_eq_true (Tf.all_at cX.more 9 rfl),
    of_decide_eq_true (Tf.all_at cX.more 10 rfl),
    of_decide_eq_true (Tf.all_at cX.more 11 rfl),
    of_decide_eq_true (Tf.all_at cX.more 12 rfl),
    of_decide_eq_true (Tf.all_at cX.more 13 rfl),
    of_decide_eq_true (Tf.all_at cX.more 14 rfl),
    of_decide_eq_true (Tf.all_at cX.more 15 rfl),
    of_decide_eq_true (Tf.all_at cX.more 16 rfl),
    of_decide_eq_true (Tf.all_at cX.more 17 rfl),
    of_decide_eq_true (Tf.all_at cX.more 18 rfl),
    of_decide_eq_true (Tf.all_at cX.more 19 rfl),
    of_decide_eq_true (Tf.all_at cX.more 20 rfl),
    of_decide_eq_true (Tf.all_at cX.more 21 rfl),
    of_decide_eq_true (Tf.all_at cX.more 22 rfl),
    of_decide_eq_true (Tf.all_at cX.more 23 rfl),
    of_decide_eq_true (Tf.all_at cX.more 24 rfl),
    He.free_ok X G (c.fact 44 (f := .free "abs") rfl),
    He.free_ok X G (c.fact 45 (f := .free "all") rfl),
    He.free_ok X G (c.fact 46 (f := .free "bool") rfl),
    He.free_ok X G (c.fact 47 (f := .free "int") rfl),
    He.free_ok X G (c.fact 48 (f := .free "isinstance") rfl),
    He.free_ok X G (c.fact 49 (f := .free "len") rfl),
    He.free_ok X G (c.fact 50 (f := .free "list") rfl),
    He.free_ok X G (c.fact 51 (f := .free "range") rfl),
    He.free_ok X G (c.fact 52 (f := .free "repr") rfl),
    He.free_ok X G (c.fact 53 (f := .free "str") rfl),
    He.free_ok X G (c.fact 54 (f := .free "sum") rfl),
    He.free_ok X G (c.fact 55 (f := .free "tuple") rfl),
    He.free_ok X G (c.fact 56 (f := .free "type") rfl)⟩
end K06
open PySem PySem.W PySem.Calls PyProof.Rows
theorem PySem.Challenge.cw_twofarplayers_k06_losses_words_and_numbe_holds : PySem.Challenge.rw_twofarplayers_k06_losses_words_and_numbe.Holds := by
  w_on; o_law
  refine HandSHeadRun.head_any (r := OpenLaw.row PySem.Challenge.rw_twofarplayers_k06_losses_words_and_numbe) (q := view (OpenLaw.row PySem.Challenge.rw_twofarplayers_k06_losses_words_and_numbe).prog [46]) (H := K06.hk) (ob := K06.ob) (M := 20000) (loose := K06.loose) (d := HandSHeadRun.topDef (OpenLaw.row PySem.Challenge.rw_twofarplayers_k06_losses_words_and_numbe).prog 46) (kwd := []) K06.ob_eq
    (by kernel_rfl) (fun s => by kernel_rfl) K06.run (by kernel_rfl) (by kernel_rfl) (by kernel_rfl) (by rfl) (by first | assumption | decide +kernel) (by decide +kernel) ⟨rfl, rfl, rfl, rfl, rfl, by decide +kernel⟩ ?hw ?hc
  case hw => w_witness2
  case hc =>
    have en : (HandSHeadRun.topDef (OpenLaw.row PySem.Challenge.rw_twofarplayers_k06_losses_words_and_numbe).prog 46).name = ("law" : PySem.Str) := by kernel_rfl
    refine Tf.walk_ofG (l := PySem.Challenge.rw_twofarplayers_k06_losses_words_and_numbe) (n := 63) (k := 17) (x := "script") (st := K06.s_law) (tf := K06.tf) (fl := K06.fa) (fn := K06.fn) (ex := K06.ex) (sp := fun K => K06.sp_law K) rfl (by decide) (by kernel_rfl) ⟨rfl, by decide, by decide⟩ (fun w h Y => Y) ?hb ?hsp ?F
    case hb =>
      intro K f fd D
      rw [en] at D
      exact fun s v => L2.FunD.bindsA (ps := ["script"]) D (fun _ _ _ _ _ _ us hl => match us, hl with | [_], _ => rfl) s [v] rfl
    case hsp =>
      exact fun K H a ns hl hT hS => ⟨a, ns, rfl, hS, hl, hT, fun _ => rfl⟩
    case F =>
      intro w mg h K KX c G base hK hN TB
      rw [en]
      exact K06.ok_law (K06.txt KX G c) TB
