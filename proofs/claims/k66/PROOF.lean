import PyProof.Rows.All
import Wide.All
import OpenK.AllK
import Wide.FinOn
import HandS.ForMost
import HandS.IsInst
import HandS.Zip
import HandS.Walk
import HandS.More
import HandS.SortKw
import HandS.ForExc
import HandS.ExcInit
import HandS.ExcField
import HandS.TryMany
import HandS.ClsMeth
import HandS.FStr
import HandS.FStrTup
import HandS.WordsExc
import HandS.Defaults
import HandS.SuiteRaise
import HandS.RaiseFrom
import HandS.ExcInitHot
import KE.KAsSuite
import KE.KExcIs
import HandS.Text
import HandS.SortInts
import HandS.SetFor
import HandS.Lambda
import HandS.Exc
import KE.GoesRaise
import HandS.Flow
import HandS.EndTab
import HandS.NestedK
import PySem.Challenge.RW_swapslip_k66_goals_that_there_are_none_o
set_option Elab.async false
set_option linter.all false
set_option maxRecDepth 100000
set_option maxHeartbeats 2000000


namespace PySem
namespace F
theorem args_sum2 (a b : Value) : argsOk "sum" ⟨[a, b], []⟩ := by unfold argsOk; kernel_rfl
end F
/-- the items of the lists from the i-th on, k of them -/
def catFrom (xs : Nat → Array Value) (i : Nat) : Nat → Array Value
  | 0 => #[]
  | k + 1 => xs i ++ catFrom xs (i + 1) k
section
variable {prog : Program} {w : World} {A : Around} {R : Result → Shared → Prop}
theorem sum_lists_loop (hh : A.in1.handled = none) (I ax S : Addr) (hne : ax ≠ I) (hSI : S ≠ I) (hSa : S ≠ ax) (items : Array Value) (ls : Nat → Addr) (xs : Nat → Array Value)
    (hit : ∀ (i : Nat) (v : Value), items[i]? = some v → v = Value.ref (ls i)) (hlI : ∀ i, i < items.size → ls i ≠ I) (hlS : ∀ i, i < items.size → ls i ≠ S) :
    ∀ (k i : Nat) (s : Shared) (acc : Addr) (ai : Array Value) (m c : Nat), items.size - i = k → i ≤ items.size → (s.heap.IsListIter I ax i ∧ s.heap.IsList ax items) →
      s.heap.get? S = some { cls := .type "list", dict := none, data := .seq #[.ref acc] c, slots := #[] } → s.heap.get? acc = some { cls := .type "list", data := .seq ai m } →
      (∀ j, j < items.size → ∃ n, s.heap.get? (ls j) = some { cls := .type "list", data := .seq (xs j) n }) → acc ≠ I → acc ≠ S →
      ai.size + (catFrom xs i k).size ≤ sizeLine →
      (∀ h' tk r n, (∀ b o, b ≠ I → b ≠ S → s.heap.get? b = some o → h'.get? b = some o) → h'.get? r = some { cls := .type "list", data := .seq (ai ++ catFrom xs i k) n } → (k = 0 → r = acc) → (0 < k → S < r) → R (.ok (.ret (.ref r))) { s with heap := h', toks := tk }) →
      codeAny (model prog w) A (.builtin "sum.loop" ⟨[.ref I, .ref S, rawInt 2, rawInt 0], []⟩) R s := by
  have W := Walks.list (prog := prog) (w := w) hh I ax hne items
  intro k
  induction k with
  | zero =>
    intro i s acc ai m c hk hi hst hS ha hl haI haS hz hR
    have hin : i = items.size := by omega
    subst hin
    refine codeAny_builtin F.entry_sum_loop ?_
    rw [Around.under_plainId F.plain_sum_loop _]
    show wpAny _ A.in1 (seqItems? (.ref S) >>= _) _ _ s
    refine wpAny_bind (wpAny_seqItems hS rfl ?_)
    show wpAny _ A.in1 (tryCatch (pyNext (.ref I)) _ >>= _) _ _ s
    refine wpAny_bind (wpAny_tryCatch (W.done s _ _ hst fun h' tk hk' => ?_))
    refine wpAny_pure (hR h' tk acc m (fun b o hbI hbS e => hk' b o (by simpa using hbI) e) ?_ (fun _ => rfl) (fun h => absurd h (Nat.lt_irrefl _)))
    have := hk' acc _ (by simpa using haI) ha
    simpa [catFrom] using this
  | succ k ih =>
    intro i s acc ai m c hk hi hst hS ha hl haI haS hz hR
    have hlt : i < items.size := by omega
    refine codeAny_builtin F.entry_sum_loop ?_
    rw [Around.under_plainId F.plain_sum_loop _]
    show wpAny _ A.in1 (seqItems? (.ref S) >>= _) _ _ s
    refine wpAny_bind (wpAny_seqItems hS rfl ?_)
    show wpAny _ A.in1 (tryCatch (pyNext (.ref I)) _ >>= _) _ _ s
    refine wpAny_bind (wpAny_tryCatch (W.item i s _ _ hlt hst fun v h' tk hP hst' hk' => ?_))
    have ev := hit i v hP
    subst ev
    have hS' := hk' S _ (by simpa using hSI) hS
    have ha' := hk' acc _ (by simpa using haI) ha
    obtain ⟨n1, hl1⟩ := hl i hlt
    have hl1' := hk' (ls i) _ (by simpa using hlI i hlt) hl1
    have hzz : ai.size + (xs i).size ≤ sizeLine := by
      have : (catFrom xs i (k + 1)).size = (xs i).size + (catFrom xs (i + 1) k).size := by simp [catFrom]
      omega
    show wpAny _ A.in1 ((holding [Value.ref (ls i)] (binaryOp .Add (.ref acc) (.ref (ls i)))).attempt >>= _) _ _ _
    refine wpAny_bind (wpAny_attempt (wpAny_holding (PySem.P.add_list (s := { s with heap := h', toks := tk }) ha' hl1' ?_ hzz)))
    have hSz : S < h'.objs.size := Heap.lt_size hS'
    have hIz : I < h'.objs.size := by obtain ⟨_, e, _⟩ := hst'.1; exact Heap.lt_size e
    have hS2 : (h'.push { cls := .type "list", data := .seq (ai ++ xs i) }).get? S = _ := Heap.get?_push_of_some _ hS'
    show wpAny _ A.in1 (updateSeq S (fun _ => #[.ref h'.objs.size]) >>= _) _ _ _
    refine wpAny_bind (wpAny_updateSeq hS2 rfl ?_)
    have hS₃ := Heap.get?_update_self (Obj.mapSeq fun _ => #[Value.ref h'.objs.size]) hS2 rfl
    refine wpAny_bind (wpAny_letGo ?_)
    refine wpAny_bind (wpAny_updateSeq hS₃ rfl ?_)
    have hS₄ := Heap.get?_update_self (Obj.mapSeq fun _ => #[Value.ref h'.objs.size]) hS₃ rfl
    have keep : ∀ b o, b ≠ S → h'.get? b = some o → (((h'.push { cls := .type "list", data := .seq (ai ++ xs i) }).update S (Obj.mapSeq fun _ => #[Value.ref h'.objs.size])).update S (Obj.mapSeq fun _ => #[Value.ref h'.objs.size])).get? b = some o := fun b o hb e =>
      (Heap.get?_update_other _ _ (Ne.symm hb)).trans ((Heap.get?_update_other _ _ (Ne.symm hb)).trans (Heap.get?_push_of_some _ e))
    have hnew : (((h'.push { cls := .type "list", data := .seq (ai ++ xs i) }).update S (Obj.mapSeq fun _ => #[Value.ref h'.objs.size])).update S (Obj.mapSeq fun _ => #[Value.ref h'.objs.size])).get? h'.objs.size = some { cls := .type "list", data := .seq (ai ++ xs i) } :=
      (Heap.get?_update_other _ _ (Nat.ne_of_lt hSz)).trans ((Heap.get?_update_other _ _ (Nat.ne_of_lt hSz)).trans (Heap.get?_push_size _ rfl))
    refine wpAny_pure ⟨plainId_quiet F.plain_sum_loop _, ih (i + 1) _ h'.objs.size (ai ++ xs i) _ _ (by omega) hlt (W.frame _ _ _ hst' fun b hb o e => keep b o ?_ e) hS₄ hnew ?_ (Nat.ne_of_gt hIz) (Nat.ne_of_gt hSz) ?_ ?_⟩
    · intro q; subst q
      rcases List.mem_cons.mp hb with q | q
      · exact hSI q
      · exact hSa (by simpa using q)
    · intro j hj
      obtain ⟨n2, e2⟩ := hl j hj
      exact ⟨n2, keep _ _ (hlS j hj) (hk' _ _ (by simpa using hlI j hj) e2)⟩
    · have : (catFrom xs i (k + 1)).size = (xs i).size + (catFrom xs (i + 1) k).size := by simp [catFrom]
      simp only [Array.size_append]
      omega
    · intro h2 tk2 r n hk2 hr h0 h1
      refine hR h2 tk2 r n (fun b o hbI hbS e => hk2 b o hbI hbS (keep b o hbS (hk' b o (by simpa using hbI) e))) ?_ (fun q => by omega) (fun _ => ?_)
      · simpa [catFrom, Array.append_assoc] using hr
      · by_cases h00 : k = 0
        · rw [h0 h00]; exact hSz
        · exact h1 (by omega)
end
section
variable {prog : Program} {w : World} {A : Around} {E : Value → Shared → Prop} {s : Shared}
theorem sub_list_str : isSubtype (.type "list") (.type "str") = pure false := by rw [isSubtype_type]; kernel_rfl
theorem sub_list_bytes : isSubtype (.type "list") (.type "bytes") = pure false := by rw [isSubtype_type]; kernel_rfl
theorem sub_list_bytearray : isSubtype (.type "list") (.type "bytearray") = pure false := by rw [isSubtype_type]; kernel_rfl
theorem call_sum_lists {l z : Addr} {items zi : Array Value} {nl nz : Nat} {Q : Value → Shared → Prop} (ls : Nat → Addr) (xs : Nat → Array Value) (hh : A.in1.handled = none)
    (hl : s.heap.get? l = some { cls := .type "list", data := .seq items nl }) (hz : s.heap.get? z = some { cls := .type "list", data := .seq zi nz })
    (hit : ∀ (i : Nat) (v : Value), items[i]? = some v → v = Value.ref (ls i)) (hls : ∀ j, j < items.size → ∃ n, s.heap.get? (ls j) = some { cls := .type "list", data := .seq (xs j) n }) (hpos : 0 < items.size)
    (hsz : zi.size + (catFrom xs 0 items.size).size ≤ sizeLine)
    (h : ∀ h' tk r n, (∀ b o, s.heap.get? b = some o → h'.get? b = some o) → s.heap.objs.size ≤ r → h'.get? r = some { cls := .type "list", data := .seq (zi ++ catFrom xs 0 items.size) n } → Q (.ref r) { s with heap := h', toks := tk }) :
    wpAny (model prog w) A (call (.builtin "sum") [.ref l, .ref z]) Q E s := by
  have hil : s.heap.IsList l items := ⟨_, hl, rfl, _, rfl⟩
  have hiz : s.heap.IsList z zi := ⟨_, hz, rfl, _, rfl⟩
  refine call_function_tree F.kind_sum F.plain_sum F.entry_sum (F.args_sum2 _ _) ?_
  unfold Builtin.«sum»
  simp only [List.length_cons, List.length_nil]
  rw [if_neg (by decide)]
  refine wpAny_bind (wpAny_of_eq (show Builtin.Builtins.bindParams "sum" ["start"] 0 ⟨[.ref z], []⟩ = pure [some (.ref z)] from rfl) ?_)
  refine wpAny_bind (L2.iter_any hil fun s₂ e2 st hne => ?_)
  subst e2
  refine wpAny_bind (wpAny_pure ?_)
  have hiz2 := hiz.push { cls := .type "list_iterator", data := .fields #[.ref l, .int 0 0] }
  simp only [List.forIn_cons, List.forIn_nil]
  refine wpAny_bind (wpAny_bind (wpAny_bind (wpAny_isInstance (T := "list") (b := false) hiz2.typeIs sub_list_str ?_)))
  simp only [Bool.false_eq_true, if_false]
  refine wpAny_pure (wpAny_bind (wpAny_bind (wpAny_isInstance (T := "list") (b := false) hiz2.typeIs sub_list_bytes ?_)))
  simp only [Bool.false_eq_true, if_false]
  refine wpAny_pure (wpAny_bind (wpAny_bind (wpAny_isInstance (T := "list") (b := false) hiz2.typeIs sub_list_bytearray ?_)))
  simp only [Bool.false_eq_true, if_false]
  refine wpAny_pure (wpAny_pure ?_)
  refine wpAny_bind (wpAny_newObj_type ?_)
  have hsz1 : (s.heap.push { cls := .type "list_iterator", data := .fields #[.ref l, .int 0 0] }).objs.size = s.heap.objs.size + 1 := Heap.size_push _ _
  have old : ∀ b o, s.heap.get? b = some o → ((s.heap.push { cls := .type "list_iterator", data := .fields #[.ref l, .int 0 0] }).push { cls := .type "list", data := .seq #[Value.ref z] }).get? b = some o := fun b o e =>
    Heap.get?_push_of_some _ (Heap.get?_push_of_some _ e)
  have lt : ∀ b o, s.heap.get? b = some o → b < s.heap.objs.size := fun b o e => Heap.lt_size e
  have lt2 : ∀ b, b < s.heap.objs.size → b ≠ (s.heap.push { cls := .type "list_iterator", data := .fields #[.ref l, .int 0 0] }).objs.size := fun b hb => Nat.ne_of_lt (by rw [hsz1]; exact Nat.lt_succ_of_lt hb)
  refine wpAny_pure ⟨plainId_quiet F.plain_sum_loop _, sum_lists_loop (A := A) hh s.heap.objs.size l (s.heap.push { cls := .type "list_iterator", data := .fields #[.ref l, .int 0 0] }).objs.size hne (Nat.ne_of_gt (by rw [hsz1]; exact Nat.lt_succ_self _)) (Ne.symm (lt2 _ (lt _ _ hl))) items ls xs hit
    (fun i hi => by obtain ⟨n, e⟩ := hls i hi; exact Nat.ne_of_lt (lt _ _ e)) (fun i hi => by obtain ⟨n, e⟩ := hls i hi; exact lt2 _ (lt _ _ e))
    items.size 0 _ z zi nz 0 (by omega) (Nat.zero_le _) ⟨st.1.at fun o e => Heap.get?_push_of_some _ e, st.2.push _⟩ (Heap.get?_push_size _ rfl) (old _ _ hz) (fun j hj => by obtain ⟨n, e⟩ := hls j hj; exact ⟨n, old _ _ e⟩)
    (Nat.ne_of_lt (lt _ _ hz)) (lt2 _ (lt _ _ hz)) hsz fun h' tk r n hk hr _ h1 => ?_⟩
  refine h h' tk r n (fun b o e => hk b o (Nat.ne_of_lt (lt _ _ e)) (lt2 _ (lt _ _ e)) (old b o e)) ?_ hr
  have := h1 hpos
  rw [hsz1] at this
  exact Nat.le_of_lt (Nat.lt_of_succ_lt this)
end
end PySem

namespace L2
open PySem PySem.Spec PyProof.Rows
section
variable {X : Cx}
/-- xs[i] as it is read in xs[i] op= e -/
def rGetL (K : PySem.W.Frag) : R2 := fun x y H Q => ∃ p xs i v, x = .ref p ∧ y = .int i ∧ SqL K H p xs ∧ 0 ≤ i ∧ xs[i.toNat]? = some v ∧ Q v H
theorem get_listA : PGet X (rGetL X.K) := by
  intro pins s σ H x y v u Q I rx ry h
  obtain ⟨p, xs, i, z, rfl, rfl, hq, h0, he, q⟩ := h
  cases rx
  obtain ⟨t, rfl⟩ := ry
  obtain ⟨its, r, pl, hz⟩ := I.list hq
  obtain ⟨w, ew, rw'⟩ := r.get he
  have hl := r.length
  have hn := line63
  have hlt : i.toNat < xs.length := (List.getElem?_eq_some_iff.mp he).1
  exact wpAny_getItem_list pl.isList h0 (by omega) (by simpa using ew) ⟨z, H, I, rw', q⟩
/-- sum(xss, zs): a list of one list and more, and a list to begin with -/
def rSumL (K : PySem.W.Frag) : List V → Hp → VK → Prop := fun vs H Q => ∃ (a z : Addr) (ls : List Addr) (xss : List (List V)) (zs : List V), vs = [V.ref a, V.ref z] ∧ H a = some (.lst (ls.map V.ref)) ∧ H z = some (.lst zs) ∧
  Paired (fun l xs => H l = some (.lst xs)) ls xss ∧ ls ≠ [] ∧ zs.length + xss.flatten.length ≤ sizeLine ∧ ∀ p, H p = none → Q (.ref p) (upd H p (.lst (zs ++ xss.flatten)))
theorem paired_at {α β : Type} {R : α → β → Prop} : ∀ {xs : List α} {ys : List β}, Paired R xs ys → ∀ (i : Nat) (x : α), xs[i]? = some x → ∃ y, ys[i]? = some y ∧ R x y
  | _, _, .nil, i, x, h => by simp at h
  | _, _, .cons r t, 0, x, h => by simp at h; subst h; exact ⟨_, rfl, r⟩
  | _, _, .cons r t, i + 1, x, h => by
    obtain ⟨y, e, q⟩ := paired_at t i x (by simpa using h)
    exact ⟨y, by simpa using e, q⟩
/-- the items of the list object at a -/
def seqAt (h : Heap) (a : Addr) : Array Value := match h.get? a with
  | some ⟨_, _, .seq xs _, _⟩ => xs
  | _ => #[]
theorem vals_cat {X : Cx} {pins : List (Addr × Obj)} {σ : St} {H : Hp} {s : Shared} (I : Inv X pins σ H s) : ∀ {ls : List Addr} {xss : List (List V)} (f : Nat → Addr) (i : Nat), Paired (fun l xs => H l = some (.lst xs)) ls xss → (∀ j a, ls[j]? = some a → f (i + j) = a) →
    Vals xss.flatten (catFrom (fun j => seqAt s.heap (f j)) i ls.length).toList
  | _, _, f, i, .nil, _ => .nil
  | _, _, f, i, .cons (a := l) (b := xs) (l₁ := ls) (l₂ := xss) r t, h => by
    obtain ⟨z, its, n, rv, hl, e⟩ := I.lstM r
    have e0 : f i = l := h 0 l rfl
    have es : seqAt s.heap (f i) = its.toArray := by
      unfold seqAt
      rw [e0, e]
    have ih := vals_cat I f (i + 1) t fun j a ha => by rw [show i + 1 + j = i + (j + 1) by omega]; exact h (j + 1) a (by simpa using ha)
    show Vals (xs ++ xss.flatten) (seqAt s.heap (f i) ++ catFrom (fun j => seqAt s.heap (f j)) (i + 1) ls.length).toList
    rw [es, Array.toList_append]
    exact rv.append ih
theorem vals_refs : ∀ {ls : List Addr} {us : List Value}, Vals (ls.map V.ref) us → us = ls.map Value.ref
  | [], _, .nil => rfl
  | l :: ls, _, .cons r t => by
    rw [vals_refs t]
    cases r
    rfl
theorem cr_sumL (hc : X.calm = true) : CallR X (.builtin "sum") (rSumL X.K) := by
  intro pins s σ H vs us Q I r h
  obtain ⟨a, z, ls, xss, zs, rfl, ha, hz, hp, hne, hsz, q⟩ := h
  obtain ⟨u1, u2, rfl, r1, r2⟩ := Vals.two r
  cases (show u1 = Value.ref a from r1)
  cases (show u2 = Value.ref z from r2)
  obtain ⟨_, its, n, rv, hl, e⟩ := I.lstM ha
  obtain ⟨_, itz, nz, rz, hlz, ez⟩ := I.lstM hz
  have ei := vals_refs rv
  subst ei
  have hlen : (ls.map Value.ref).toArray.size = ls.length := by simp
  have hcat := vals_cat I (fun j => ls.getD j 0) 0 hp (fun j b hb => by
    show ls.getD (0 + j) 0 = b
    rw [Nat.zero_add, List.getD_eq_getElem?_getD, hb]
    rfl)
  have hcl := hcat.length
  refine call_sum_lists (items := (ls.map Value.ref).toArray) (zi := itz.toArray) (fun j => ls.getD j 0) (fun j => seqAt s.heap (ls.getD j 0)) (I.ok.hd hc) e ez (fun i v hv => ?_) (fun j hj => ?_) ?_ ?_ fun h' tk p n' hk hp' hr => ?_
  · have hv' : (ls.map Value.ref)[i]? = some v := by simpa using hv
    rw [List.getElem?_map] at hv'
    obtain ⟨b, hb, rfl⟩ := Option.map_eq_some_iff.mp hv'
    rw [List.getD_eq_getElem?_getD, hb]
    rfl
  · rw [hlen] at hj
    have hb : ls[j]? = some ls[j] := List.getElem?_eq_getElem hj
    obtain ⟨ys, _, hy⟩ := paired_at hp j _ hb
    obtain ⟨_, itj, nj, _, _, ej⟩ := I.lstM hy
    refine ⟨nj, ?_⟩
    have : ls.getD j 0 = ls[j] := by rw [List.getD_eq_getElem?_getD, hb]; rfl
    rw [this, ej]
    unfold seqAt
    rw [ej]
  · rw [hlen]
    cases ls with
    | nil => exact absurd rfl hne
    | cons => simp
  · rw [hlen]
    simp only [List.size_toArray]
    have : (catFrom (fun j => seqAt s.heap (ls.getD j 0)) 0 ls.length).size = xss.flatten.length := (hcl.trans Array.length_toList).symm
    omega
  · rw [hlen] at hr
    have hv : Vals (zs ++ xss.flatten) (itz ++ (catFrom (fun j => seqAt s.heap (ls.getD j 0)) 0 ls.length).toList) := rz.append hcat
    refine ⟨.ref p, upd H p (.lst (zs ++ xss.flatten)), I.laid hk hp' ⟨by rw [List.length_append]; exact hsz, _, n', hv, ?_⟩, rfl, q p (I.hok.fresh hp')⟩
    rw [hr]
    congr 3
    apply Array.ext'
    simp
end
end L2

namespace Sw
/-! ties as (one, other, price); directed edges likewise: (a, b, c): from a one goes to b for c -/
abbrev T3 := Nat × Nat × Nat
/-- a way from v to the goal g with k steps for c -/
inductive Way (E : List T3) (g : Nat) : Nat → Nat → Nat → Prop
  | nil : Way E g g 0 0
  | cons {a b p k c : Nat} : (a, b, p) ∈ E → Way E g b k c → Way E g a (k + 1) (p + c)
abbrev Dist := List (Option Nat)
def at? (d : Dist) (v : Nat) : Option Nat := (d[v]?).getD none
/-- one relaxing -/
def relax (d : Dist) (e : T3) : Dist :=
  match at? d e.2.1 with
  | none => d
  | some y => match at? d e.1 with
    | none => d.set e.1 (some (y + e.2.2))
    | some x => if y + e.2.2 < x then d.set e.1 (some (y + e.2.2)) else d
def roundOf (L : List T3) (d : Dist) : Dist := L.foldl relax d
def start (n g : Nat) : Dist := (List.replicate n none).set g (some 0)
def rounds (L : List T3) : Nat → Dist → Dist
  | 0, d => d
  | k + 1, d => rounds L k (roundOf L d)
theorem relax_len (d : Dist) (e : T3) : (relax d e).length = d.length := by
  unfold relax
  split
  · rfl
  · split
    · simp
    · split <;> simp
theorem round_len (L : List T3) : ∀ d, (roundOf L d).length = d.length := by
  induction L with
  | nil => intro d; rfl
  | cons e L ih => intro d; show (roundOf L (relax d e)).length = _; rw [ih, relax_len]
theorem at_set (d : Dist) (v u : Nat) (x : Option Nat) (h : v < d.length) : at? (d.set v x) u = if u = v then x else at? d u := by
  unfold at?
  rw [List.getElem?_set]
  by_cases e : v = u
  · subst e; simp [h]
  · simp [e, Ne.symm e]
/-- le on Option with none the top -/
def Le (x y : Option Nat) : Prop := ∀ c, y = some c → ∃ c', x = some c' ∧ c' ≤ c
theorem Le.refl (x : Option Nat) : Le x x := fun c h => ⟨c, h, Nat.le_refl _⟩
theorem Le.trans {x y z : Option Nat} (h : Le x y) (h' : Le y z) : Le x z := fun c e => by
  obtain ⟨c1, e1, l1⟩ := h' c e
  obtain ⟨c2, e2, l2⟩ := h c1 e1
  exact ⟨c2, e2, Nat.le_trans l2 l1⟩
theorem relax_le (d : Dist) (e : T3) (hl : e.1 < d.length) (v : Nat) : Le (at? (relax d e) v) (at? d v) := by
  unfold relax
  split
  · exact Le.refl _
  · rename_i y hy
    split
    · rename_i hx
      rw [at_set _ _ _ _ hl]
      split
      · rename_i ev; subst ev; intro c hc; rw [hx] at hc; cases hc
      · exact Le.refl _
    · rename_i x hx
      split
      · rename_i lt
        rw [at_set _ _ _ _ hl]
        split
        · rename_i ev; subst ev; intro c hc; rw [hx] at hc; cases hc; exact ⟨_, rfl, Nat.le_of_lt lt⟩
        · exact Le.refl _
      · exact Le.refl _
theorem relax_does (d : Dist) (e : T3) (hl : e.1 < d.length) {y : Nat} (hy : at? d e.2.1 = some y) : Le (at? (relax d e) e.1) (some (y + e.2.2)) := by
  unfold relax
  rw [hy]
  simp only
  split
  · rw [at_set _ _ _ _ hl, if_pos rfl]; exact Le.refl _
  · rename_i x hx
    split
    · rw [at_set _ _ _ _ hl, if_pos rfl]; exact Le.refl _
    · rename_i nl
      intro c hc; cases hc; exact ⟨x, hx, by omega⟩
theorem round_le (L : List T3) : ∀ (d : Dist), (∀ e ∈ L, e.1 < d.length) → ∀ v, Le (at? (roundOf L d) v) (at? d v) := by
  induction L with
  | nil => intro d _ v; exact Le.refl _
  | cons e L ih =>
    intro d h v
    have h1 := relax_le d e (h e List.mem_cons_self) v
    have h2 := ih (relax d e) (fun e' m => by rw [relax_len]; exact h e' (List.mem_cons_of_mem _ m)) v
    exact Le.trans h2 h1
theorem round_does (L : List T3) : ∀ (d : Dist), (∀ e ∈ L, e.1 < d.length) → ∀ e ∈ L, ∀ y, at? d e.2.1 = some y → Le (at? (roundOf L d) e.1) (some (y + e.2.2)) := by
  induction L with
  | nil => intro d _ e m; cases m
  | cons e0 L ih =>
    intro d h e m y hy
    have hr : ∀ e ∈ L, e.1 < (relax d e0).length := fun e' m => by rw [relax_len]; exact h e' (List.mem_cons_of_mem _ m)
    have h1 := relax_le d e0 (h e0 List.mem_cons_self)
    rcases List.mem_cons.mp m with q | q
    · subst q
      have := relax_does d e (h e List.mem_cons_self) hy
      exact Le.trans (round_le L _ hr e.1) this
    · obtain ⟨y', e1, l1⟩ := h1 e.2.1 y hy
      obtain h2 := ih (relax d e0) hr e q y' e1
      intro c hc
      cases hc
      obtain ⟨c', e2, l2⟩ := h2 _ rfl
      exact ⟨c', e2, by omega⟩
/-- soundness -/
def Sound (E : List T3) (g : Nat) (d : Dist) : Prop := ∀ v c, at? d v = some c → ∃ k, Way E g v k c
theorem relax_sound {E : List T3} {g : Nat} {d : Dist} {e : T3} (he : e ∈ E) (hl : e.1 < d.length) (s : Sound E g d) : Sound E g (relax d e) := by
  intro v c hv
  unfold relax at hv
  split at hv
  · exact s v c hv
  · rename_i y hy
    obtain ⟨k, wk⟩ := s _ _ hy
    have ws : ∃ k, Way E g e.1 k (y + e.2.2) := ⟨k + 1, by rw [Nat.add_comm y]; exact Way.cons he wk⟩
    split at hv
    · rw [at_set _ _ _ _ hl] at hv
      split at hv
      · rename_i ev; subst ev; cases hv; exact ws
      · exact s v c hv
    · split at hv
      · rw [at_set _ _ _ _ hl] at hv
        split at hv
        · rename_i ev; subst ev; cases hv; exact ws
        · exact s v c hv
      · exact s v c hv
theorem round_sound {E : List T3} {g : Nat} (L : List T3) : ∀ (d : Dist), (∀ e ∈ L, e ∈ E) → (∀ e ∈ L, e.1 < d.length) → Sound E g d → Sound E g (roundOf L d) := by
  induction L with
  | nil => intro d _ _ s; exact s
  | cons e L ih =>
    intro d h1 h2 s
    exact ih (relax d e) (fun e' m => h1 e' (List.mem_cons_of_mem _ m)) (fun e' m => by rw [relax_len]; exact h2 e' (List.mem_cons_of_mem _ m)) (relax_sound (h1 e List.mem_cons_self) (h2 e List.mem_cons_self) s)
/-- below every way of at most k steps -/
def Below (E : List T3) (g k : Nat) (d : Dist) : Prop := ∀ v j c, j ≤ k → Way E g v j c → Le (at? d v) (some c)
theorem round_below {E : List T3} {g k : Nat} (L : List T3) (d : Dist) (h1 : ∀ e ∈ E, e ∈ L) (h2 : ∀ e ∈ L, e.1 < d.length) (b : Below E g k d) : Below E g (k + 1) (roundOf L d) := by
  intro v j c hj w
  cases w with
  | nil => exact Le.trans (round_le L d h2 _) (b _ 0 0 (Nat.zero_le _) Way.nil)
  | @cons _ u p j' c' he w' =>
    obtain ⟨y, e1, l1⟩ := b u j' c' (by omega) w' _ rfl
    obtain ⟨z, e2, l2⟩ := round_does L d h2 _ (h1 _ he) y e1 _ rfl
    intro c2 hc2
    cases hc2
    refine ⟨z, e2, ?_⟩
    simp only at l2
    omega
theorem rounds_len (L : List T3) : ∀ k d, (rounds L k d).length = d.length := by
  intro k
  induction k with
  | zero => intro d; rfl
  | succ k ih => intro d; show (rounds L k (roundOf L d)).length = _; rw [ih, round_len]
theorem rounds_ok {E : List T3} {g : Nat} (L : List T3) (h0 : ∀ e, e ∈ E ↔ e ∈ L) : ∀ (k j : Nat) (d : Dist), (∀ e ∈ L, e.1 < d.length) → Sound E g d → Below E g j d → Sound E g (rounds L k d) ∧ Below E g (j + k) (rounds L k d) := by
  intro k
  induction k with
  | zero => intro j d _ s b; exact ⟨s, b⟩
  | succ k ih =>
    intro j d h s b
    have := ih (j + 1) (roundOf L d) (fun e m => by rw [round_len]; exact h e m) (round_sound L d (fun e m => (h0 e).mpr m) h s) (round_below L d (fun e m => (h0 e).mp m) h b)
    rw [show j + (k + 1) = j + 1 + k by omega]
    exact this
theorem rounds_succ (L : List T3) : ∀ k d, rounds L (k + 1) d = roundOf L (rounds L k d) := by
  intro k
  induction k with
  | zero => intro d; rfl
  | succ k ih => intro d; show rounds L (k + 1) (roundOf L d) = _; rw [ih]; rfl
/-! a way without a house twice -/
/-- no more than n different numbers below n -/
theorem nodup_le : ∀ (n : Nat) (l : List Nat), l.Nodup → (∀ x ∈ l, x < n) → l.length ≤ n := by
  intro n
  induction n with
  | zero =>
    intro l _ h
    cases l with
    | nil => simp
    | cons a l => exact absurd (h a List.mem_cons_self) (by omega)
  | succ n ih =>
    intro l nd h
    have h1 := ih (l.erase n) (nd.erase _) (fun x m => by
      have := h x (List.mem_of_mem_erase m)
      have hne : x ≠ n := fun q => by
        subst q
        exact (List.Nodup.not_mem_erase nd) m
      omega)
    have h2 : l.length ≤ (l.erase n).length + 1 := by
      rw [List.length_erase]
      split <;> omega
    omega
/-- the houses of a way (the goal left out) -/
inductive WayL (E : List T3) (g : Nat) : Nat → List Nat → Nat → Prop
  | nil : WayL E g g [] 0
  | cons {a b p c : Nat} {l : List Nat} : (a, b, p) ∈ E → WayL E g b l c → WayL E g a (a :: l) (p + c)
theorem Way.toL {E : List T3} {g v k c : Nat} (w : Way E g v k c) : ∃ l, WayL E g v l c ∧ l.length = k := by
  induction w with
  | nil => exact ⟨[], .nil, rfl⟩
  | cons he _ ih => obtain ⟨l, w, e⟩ := ih; exact ⟨_, .cons he w, by simp [e]⟩
theorem WayL.toW {E : List T3} {g v c : Nat} {l : List Nat} (w : WayL E g v l c) : Way E g v l.length c := by
  induction w with
  | nil => exact .nil
  | cons he _ ih => exact .cons he ih
/-- from a house on the way on -/
theorem WayL.from {E : List T3} {g v c : Nat} {l : List Nat} (w : WayL E g v l c) (nd : l.Nodup) : ∀ u ∈ l, ∃ l' c', WayL E g u l' c' ∧ c' ≤ c ∧ l'.Nodup ∧ ∀ x ∈ l', x ∈ l := by
  induction w with
  | nil => intro u m; cases m
  | @cons a b p c l he w ih =>
    intro u m
    rcases List.mem_cons.mp m with q | q
    · subst q; exact ⟨_, _, .cons he w, Nat.le_refl _, nd, fun x m => m⟩
    · obtain ⟨l', c', w', le, nd', sub⟩ := ih (List.nodup_cons.mp nd).2 u q
      exact ⟨l', c', w', by omega, nd', fun x m => List.mem_cons_of_mem _ (sub x m)⟩
theorem WayL.simple {E : List T3} {g v c : Nat} {l : List Nat} (w : WayL E g v l c) : ∃ l' c', WayL E g v l' c' ∧ c' ≤ c ∧ l'.Nodup ∧ g ∉ l' := by
  induction w with
  | nil => exact ⟨[], 0, .nil, Nat.le_refl _, List.nodup_nil, by simp⟩
  | @cons a b p c l he w ih =>
    obtain ⟨l', c', w', le, nd, ng⟩ := ih
    by_cases hg : a = g
    · subst hg; exact ⟨[], 0, .nil, Nat.zero_le _, List.nodup_nil, by simp⟩
    · by_cases ha : a ∈ l'
      · obtain ⟨l2, c2, w2, le2, nd2, sub⟩ := w'.from nd a ha
        exact ⟨l2, c2, w2, by omega, nd2, fun m => ng (sub _ m)⟩
      · exact ⟨a :: l', p + c', .cons he w', by omega, List.nodup_cons.mpr ⟨ha, nd⟩, fun m => by
          rcases List.mem_cons.mp m with q | q
          · exact hg q.symm
          · exact ng q⟩
theorem WayL.lt {E : List T3} {g v c n : Nat} {l : List Nat} (w : WayL E g v l c) (hE : ∀ e ∈ E, e.1 < n) : ∀ x ∈ l, x < n := by
  induction w with
  | nil => intro x m; cases m
  | cons he _ ih =>
    intro x m
    rcases List.mem_cons.mp m with q | q
    · subst q; exact hE _ he
    · exact ih x q
theorem way_short {E : List T3} {g v k c n : Nat} (hE : ∀ e ∈ E, e.1 < n) (w : Way E g v k c) : ∃ k' c', k' ≤ n ∧ c' ≤ c ∧ Way E g v k' c' := by
  obtain ⟨l, wl, _⟩ := w.toL
  obtain ⟨l', c', w', le, nd, _⟩ := wl.simple
  exact ⟨l'.length, c', nodup_le n l' nd (w'.lt hE), le, w'.toW⟩
/-- what the list of least prices is -/
structure IsFar (E : List T3) (n g : Nat) (d : Dist) : Prop where
  len : d.length = n
  way : Sound E g d
  least : ∀ v k c, Way E g v k c → Le (at? d v) (some c)
theorem start_at (n g v : Nat) (hg : g < n) : at? (start n g) v = if v = g then some 0 else none := by
  unfold start
  rw [at_set _ _ _ _ (by simpa using hg)]
  split
  · rfl
  · unfold at?
    rw [List.getElem?_replicate]
    split <;> rfl
theorem far_is {E : List T3} {n g : Nat} (L : List T3) (h0 : ∀ e, e ∈ E ↔ e ∈ L) (hE : ∀ e ∈ E, e.1 < n) (hg : g < n) : IsFar E n g (rounds L n (start n g)) := by
  have hs : (start n g).length = n := by simp [start]
  have h := rounds_ok (E := E) (g := g) L h0 n 0 (start n g) (fun e m => by rw [hs]; exact hE e ((h0 e).mpr m))
    (fun v c h => by
      rw [start_at _ _ _ hg] at h
      split at h
      · rename_i q; subst q; cases h; exact ⟨0, .nil⟩
      · cases h)
    (fun v j c hj w => by
      have : j = 0 := by omega
      subst this
      cases w
      rw [start_at _ _ _ hg, if_pos rfl]
      exact Le.refl _)
  refine ⟨by rw [rounds_len, hs], h.1, fun v k c w => ?_⟩
  obtain ⟨k', c', hk, hc, w'⟩ := way_short hE w
  obtain ⟨z, e, l⟩ := h.2 v k' c' (by omega) w' _ rfl
  intro c2 e2
  cases e2
  exact ⟨z, e, by omega⟩
theorem far_one {E : List T3} {n g : Nat} {d d' : Dist} (h : IsFar E n g d) (h' : IsFar E n g d') : d = d' := by
  have key : ∀ v, at? d v = at? d' v := fun v => by
    cases e : at? d v with
    | none =>
      cases e' : at? d' v with
      | none => rfl
      | some c' =>
        obtain ⟨k, w⟩ := h'.way _ _ e'
        obtain ⟨z, ez, _⟩ := h.least _ _ _ w _ rfl
        rw [e] at ez; cases ez
    | some c =>
      obtain ⟨k, w⟩ := h.way _ _ e
      obtain ⟨z, ez, lz⟩ := h'.least _ _ _ w _ rfl
      obtain ⟨k2, w2⟩ := h'.way _ _ ez
      obtain ⟨z2, ez2, lz2⟩ := h.least _ _ _ w2 _ rfl
      rw [e] at ez2; cases ez2
      rw [ez]
      congr 1
      omega
  refine List.ext_getElem? fun i => ?_
  by_cases hi : i < n
  · have a1 : i < d.length := by rw [h.len]; exact hi
    have a2 : i < d'.length := by rw [h'.len]; exact hi
    have := key i
    unfold at? at this
    rw [List.getElem?_eq_getElem a1, List.getElem?_eq_getElem a2] at this ⊢
    simpa using this
  · rw [List.getElem?_eq_none (by rw [h.len]; omega), List.getElem?_eq_none (by rw [h'.len]; omega)]
theorem far_cong {E E' : List T3} {n g : Nat} {d : Dist} (he : ∀ e, e ∈ E ↔ e ∈ E') (h : IsFar E n g d) : IsFar E' n g d := by
  have tr : ∀ {A B : List T3}, (∀ e, e ∈ A → e ∈ B) → ∀ {v k c}, Way A g v k c → Way B g v k c := by
    intro A B hs v k c w
    induction w with
    | nil => exact .nil
    | cons m _ ih => exact .cons (hs _ m) ih
  exact ⟨h.len, fun v c e => by obtain ⟨k, w⟩ := h.way v c e; exact ⟨k, tr (fun e m => (he e).mp m) w⟩, fun v k c w => h.least v k c (tr (fun e m => (he e).mpr m) w)⟩
end Sw
namespace Sw
/-- u is a next house of h: just so much nearer -/
def Cand (E : List T3) (d : Dist) (h u : Nat) : Prop := ∃ c y, (h, u, c) ∈ E ∧ at? d u = some y ∧ at? d h = some (y + c)
def IsNext (E : List T3) (d : Dist) (g h : Nat) : Option Nat → Prop
  | none => h = g ∨ at? d h = none
  | some u => h ≠ g ∧ at? d h ≠ none ∧ Cand E d h u ∧ ∀ v, Cand E d h v → u ≤ v
theorem next_one {E : List T3} {d : Dist} {g h : Nat} : ∀ {x y : Option Nat}, IsNext E d g h x → IsNext E d g h y → x = y
  | none, none, _, _ => rfl
  | none, some u, h1, h2 => by
    rcases h1 with q | q
    · exact absurd q h2.1
    · exact absurd q h2.2.1
  | some u, none, h1, h2 => by
    rcases h2 with q | q
    · exact absurd q h1.1
    · exact absurd q h1.2.1
  | some u, some v, h1, h2 => by
    have a := h1.2.2.2 v h2.2.2.1
    have b := h2.2.2.2 u h1.2.2.1
    rw [Nat.le_antisymm a b]
theorem cand_cong {E E' : List T3} (he : ∀ e, e ∈ E ↔ e ∈ E') {d : Dist} {h u : Nat} : Cand E d h u ↔ Cand E' d h u :=
  ⟨fun ⟨c, y, a, b⟩ => ⟨c, y, (he _).mp a, b⟩, fun ⟨c, y, a, b⟩ => ⟨c, y, (he _).mpr a, b⟩⟩
theorem next_cong {E E' : List T3} (he : ∀ e, e ∈ E ↔ e ∈ E') {d : Dist} {g h : Nat} : ∀ {x : Option Nat}, IsNext E d g h x → IsNext E' d g h x
  | none, a => a
  | some u, a => ⟨a.1, a.2.1, (cand_cong he).mp a.2.2.1, fun v hv => a.2.2.2 v ((cand_cong he).mpr hv)⟩
theorem far_goal {E : List T3} {n g : Nat} {d : Dist} (f : IsFar E n g d) : at? d g = some 0 := by
  obtain ⟨c, e, l⟩ := f.least g 0 0 .nil 0 rfl
  rw [e]
  congr 1
  omega
theorem cand_ex {E : List T3} {n g h c : Nat} {d : Dist} (f : IsFar E n g d) (hg : h ≠ g) (hc : at? d h = some c) : ∃ u, Cand E d h u := by
  obtain ⟨k, w⟩ := f.way h c hc
  cases w with
  | nil => exact absurd rfl hg
  | @cons _ u p k' c' he w' =>
    obtain ⟨y, ey, ly⟩ := f.least u k' c' w' _ rfl
    obtain ⟨k2, w2⟩ := f.way u y ey
    obtain ⟨z, ez, lz⟩ := f.least h (k2 + 1) (p + y) (.cons he w2) _ rfl
    rw [hc] at ez
    cases ez
    refine ⟨u, p, y, he, ey, ?_⟩
    rw [hc]
    congr 1
    omega
theorem near_some {E : List T3} {n g h u c : Nat} {d : Dist} (f : IsFar E n g d) (hs : ∀ a b c, (a, b, c) ∈ E → (b, a, c) ∈ E) (he : (h, u, c) ∈ E) (hh : at? d h ≠ none) : ∃ y, at? d u = some y := by
  cases e : at? d h with
  | none => exact absurd e hh
  | some z =>
    obtain ⟨k, w⟩ := f.way h z e
    obtain ⟨y, ey, _⟩ := f.least u (k + 1) (c + z) (.cons (hs _ _ _ he) w) _ rfl
    exact ⟨y, ey⟩
/-- whether a neighbour (house, price) is just so much nearer -/
def test (d : Dist) (h : Nat) (q : Nat × Nat) : Bool := match at? d q.1 with
  | some y => decide (at? d h = some (y + q.2))
  | none => false
def candL (d : Dist) (h : Nat) (L : List (Nat × Nat)) : List Nat := (L.filter (test d h)).map (·.1)
theorem candL_mem {E : List T3} {d : Dist} {h : Nat} {L : List (Nat × Nat)} (hL : ∀ u c, (u, c) ∈ L ↔ (h, u, c) ∈ E) (u : Nat) : u ∈ candL d h L ↔ Cand E d h u := by
  unfold candL
  rw [List.mem_map]
  constructor
  · rintro ⟨q, hq, rfl⟩
    obtain ⟨m, t⟩ := List.mem_filter.mp hq
    unfold test at t
    cases e : at? d q.1 with
    | none => rw [e] at t; cases t
    | some y =>
      rw [e] at t
      exact ⟨q.2, y, (hL _ _).mp m, e, of_decide_eq_true t⟩
  · rintro ⟨c, y, m, e, t⟩
    refine ⟨(u, c), List.mem_filter.mpr ⟨(hL _ _).mpr m, ?_⟩, rfl⟩
    unfold test
    rw [e]
    exact decide_eq_true t
def nbr (ts : List T3) (h : Nat) : List (Nat × Nat) := ts.flatMap fun e => (if e.1 = h then [(e.2.1, e.2.2)] else []) ++ (if e.2.1 = h then [(e.1, e.2.2)] else [])
theorem nbr_mem (ts : List T3) (h u c : Nat) : (u, c) ∈ nbr ts h ↔ ((h, u, c) ∈ ts ∨ (u, h, c) ∈ ts) := by
  unfold nbr
  rw [List.mem_flatMap]
  constructor
  · rintro ⟨⟨a, b, p⟩, m, q⟩
    rcases List.mem_append.mp q with q | q
    · split at q
      · rename_i e; simp at q e; obtain ⟨rfl, rfl⟩ := q; subst e; exact .inl m
      · cases q
    · split at q
      · rename_i e; simp at q e; obtain ⟨rfl, rfl⟩ := q; subst e; exact .inr m
      · cases q
  · rintro (m | m)
    · exact ⟨_, m, by simp⟩
    · exact ⟨_, m, by simp⟩
theorem nbr_snoc (ts : List T3) (e : T3) (h : Nat) : nbr (ts ++ [e]) h = nbr ts h ++ ((if e.1 = h then [(e.2.1, e.2.2)] else []) ++ (if e.2.1 = h then [(e.1, e.2.2)] else [])) := by
  unfold nbr
  rw [List.flatMap_append]
  simp
theorem nbr_len (ts : List T3) (h : Nat) : (nbr ts h).length ≤ 2 * ts.length := by
  induction ts with
  | nil => simp [nbr]
  | cons e ts ih =>
    have : nbr (e :: ts) h = ((if e.1 = h then [(e.2.1, e.2.2)] else []) ++ (if e.2.1 = h then [(e.1, e.2.2)] else [])) ++ nbr ts h := rfl
    rw [this, List.length_append, List.length_append]
    have h1 : (if e.1 = h then [(e.2.1, e.2.2)] else []).length ≤ 1 := by split <;> simp
    have h2 : (if e.2.1 = h then [(e.1, e.2.2)] else []).length ≤ 1 := by split <;> simp
    simp only [List.length_cons]
    omega
theorem candL_snoc (d : Dist) (h : Nat) (L : List (Nat × Nat)) (q : Nat × Nat) : candL d h (L ++ [q]) = candL d h L ++ (if test d h q = true then [q.1] else []) := by
  unfold candL
  rw [List.filter_append, List.map_append]
  congr 1
  simp only [List.filter_cons, List.filter_nil]
  split <;> rfl
theorem candL_len (d : Dist) (h : Nat) (L : List (Nat × Nat)) : (candL d h L).length ≤ L.length := by
  unfold candL
  rw [List.length_map]
  exact List.length_filter_le _ _
end Sw
namespace Sw
def fl1 (ts : List T3) (h : Nat) : List (Nat × Nat) := ts.flatMap fun e => if e.1 = h then [(e.2.1, e.2.2)] else []
def fl2 (ts : List T3) (h : Nat) : List (Nat × Nat) := ts.flatMap fun e => if e.2.1 = h then [(e.1, e.2.2)] else []
theorem fl1_snoc (ts : List T3) (e : T3) (h : Nat) : fl1 (ts ++ [e]) h = fl1 ts h ++ (if e.1 = h then [(e.2.1, e.2.2)] else []) := by
  unfold fl1; rw [List.flatMap_append]; simp
theorem fl2_snoc (ts : List T3) (e : T3) (h : Nat) : fl2 (ts ++ [e]) h = fl2 ts h ++ (if e.2.1 = h then [(e.1, e.2.2)] else []) := by
  unfold fl2; rw [List.flatMap_append]; simp
theorem fl_mem (ts : List T3) (h u c : Nat) : (u, c) ∈ fl1 ts h ++ fl2 ts h ↔ ((h, u, c) ∈ ts ∨ (u, h, c) ∈ ts) := by
  rw [List.mem_append]
  unfold fl1 fl2
  rw [List.mem_flatMap, List.mem_flatMap]
  constructor
  · rintro (⟨⟨a, b, p⟩, m, q⟩ | ⟨⟨a, b, p⟩, m, q⟩)
    · split at q
      · rename_i e; simp at q e; obtain ⟨rfl, rfl⟩ := q; subst e; exact .inl m
      · cases q
    · split at q
      · rename_i e; simp at q e; obtain ⟨rfl, rfl⟩ := q; subst e; exact .inr m
      · cases q
  · rintro (m | m)
    · exact .inl ⟨_, m, by simp⟩
    · exact .inr ⟨_, m, by simp⟩
theorem fl1_len (ts : List T3) (h : Nat) : (fl1 ts h).length ≤ ts.length := by
  induction ts with
  | nil => simp [fl1]
  | cons e ts ih =>
    have : fl1 (e :: ts) h = (if e.1 = h then [(e.2.1, e.2.2)] else []) ++ fl1 ts h := rfl
    rw [this, List.length_append]
    have h1 : (if e.1 = h then [(e.2.1, e.2.2)] else []).length ≤ 1 := by split <;> simp
    simp only [List.length_cons]
    omega
theorem fl2_len (ts : List T3) (h : Nat) : (fl2 ts h).length ≤ ts.length := by
  induction ts with
  | nil => simp [fl2]
  | cons e ts ih =>
    have : fl2 (e :: ts) h = (if e.2.1 = h then [(e.1, e.2.2)] else []) ++ fl2 ts h := rfl
    rw [this, List.length_append]
    have h1 : (if e.2.1 = h then [(e.1, e.2.2)] else []).length ≤ 1 := by split <;> simp
    simp only [List.length_cons]
    omega
end Sw
namespace Sw
/-- the told way, house by house -/
inductive WayTo (E : List T3) (d : Dist) (g : Nat) : Nat → List Nat → Prop
  | here : WayTo E d g g [g]
  | step {h u : Nat} {l : List Nat} : IsNext E d g h (some u) → WayTo E d g u l → WayTo E d g h (h :: l)
theorem wayto_one {E : List T3} {d : Dist} {g h : Nat} {l l' : List Nat} (a : WayTo E d g h l) (b : WayTo E d g h l') : l = l' := by
  induction a generalizing l' with
  | here =>
    cases b with
    | here => rfl
    | step i _ => exact absurd rfl i.1
  | step i _ ih =>
    cases b with
    | here => exact absurd rfl i.1
    | step j r =>
      have e := next_one i j
      cases e
      rw [ih r]
theorem way_cost {E : List T3} {g v k c : Nat} (h : ∀ e ∈ E, e.2.2 ≤ 9) (w : Way E g v k c) : c ≤ 9 * k := by
  induction w with
  | nil => exact Nat.le_refl _
  | cons he _ ih =>
    have := h _ he
    simp only at this
    omega
theorem far_small {E : List T3} {n g v c : Nat} {d : Dist} (f : IsFar E n g d) (hE : ∀ e ∈ E, e.1 < n) (h9 : ∀ e ∈ E, e.2.2 ≤ 9) (e : at? d v = some c) : c ≤ 9 * n := by
  obtain ⟨k, w⟩ := f.way v c e
  obtain ⟨k', c', hk, hc, w'⟩ := way_short hE w
  obtain ⟨z, ez, lz⟩ := f.least v k' c' w' _ rfl
  rw [e] at ez
  cases ez
  have := way_cost h9 w'
  have : 9 * k' ≤ 9 * n := Nat.mul_le_mul_left 9 hk
  omega
/-- all houses that a list of prices reaches, rising -/
def lotOf (n : Nat) (d : Dist) : List Nat := (List.range n).filter fun h => (at? d h).isSome
end Sw

namespace K
open PySem PySem.Spec PyProof.Rows L2
/-- all but p stands as it stood -/
def But (p : Addr) (H H' : Hp) : Prop := ∀ b o, H b = some o → b ≠ p → H' b = some o
theorem But.refl (p : Addr) (H : Hp) : But p H H := fun _ _ e _ => e
theorem But.trans {p : Addr} {H H1 H2 : Hp} (a : But p H H1) (b : But p H1 H2) : But p H H2 := fun c o e hc => b c o (a c o e hc) hc
theorem But.of_same {p : Addr} {H H' : Hp} (s : Same H H') : But p H H' := fun b o e _ => s b o e
theorem But.put {p : Addr} {H : Hp} {o : HO} : But p H (upd H p o) := fun b u e hb => by rw [upd_ne hb]; exact e
theorem same_upd {H : Hp} {p : Addr} {o : HO} (h : H p = none) : Same H (upd H p o) := fun b x e => by
  rw [upd_ne (ne_of_none e h)]
  exact e
/-- the box of the draws at p, its list of cells at q -/
def BoxAt (H : Hp) (p q : Addr) : Prop := ∃ (ns : List Int) (i t s : Int), H p = some (.lst [.ref q, .int i, .int t, .int s]) ∧ H q = some (.lst (ns.map V.int)) ∧ 0 ≤ i ∧ i ≤ ns.length ∧ 0 ≤ s ∧ s < 2147483549 ∧ ns.length ≤ 63
theorem BoxAt.ne {H : Hp} {p q : Addr} (h : BoxAt H p q) : p ≠ q := by
  obtain ⟨ns, i, t, s, h1, h2, _⟩ := h
  refine ne_of h1 h2 fun e => ?_
  cases ns with
  | nil => cases e
  | cons n ns => injection e with e; injection e with e1 e2; cases e1
theorem BoxAt.at {H H' : Hp} {p q : Addr} (h : BoxAt H p q) (h1 : ∀ o, H p = some o → H' p = some o) (h2 : ∀ o, H q = some o → H' q = some o) : BoxAt H' p q := by
  obtain ⟨ns, i, t, s, e1, e2, r⟩ := h
  exact ⟨ns, i, t, s, h1 _ e1, h2 _ e2, r⟩
theorem BoxAt.same {H H' : Hp} {p q : Addr} (h : BoxAt H p q) (s : Same H H') : BoxAt H' p q := h.at (fun o e => s _ o e) (fun o e => s _ o e)
theorem BoxAt.p_some {H : Hp} {p q : Addr} (h : BoxAt H p q) : ∃ o, H p = some o := by
  obtain ⟨ns, i, t, s, e1, e2, r⟩ := h
  exact ⟨_, e1⟩
theorem BoxAt.q_some {H : Hp} {p q : Addr} (h : BoxAt H p q) : ∃ o, H q = some o := by
  obtain ⟨ns, i, t, s, e1, e2, r⟩ := h
  exact ⟨_, e2⟩
/-- another object than the box's own two is written -/
theorem BoxAt.put {H : Hp} {p q l : Addr} {o : HO} (h : BoxAt H p q) (hp : l ≠ p) (hq : l ≠ q) : BoxAt (upd H l o) p q :=
  h.at (fun o e => by rw [upd_ne (Ne.symm hp)]; exact e) (fun o e => by rw [upd_ne (Ne.symm hq)]; exact e)
theorem BoxAt.putN {H : Hp} {p q l : Addr} {o : HO} (h : BoxAt H p q) (hl : H l = none) : BoxAt (upd H l o) p q := h.same (same_upd hl)
theorem fmod_le {a n : Int} (hn : 0 < n) : 0 ≤ a.fmod n ∧ a.fmod n < n := by
  rw [Int.fmod_eq_emod_of_nonneg _ (Int.le_of_lt hn)]
  exact ⟨Int.emod_nonneg _ (by omega), Int.emod_lt_of_pos _ hn⟩
/-- _law_box(script) -/
def spBox (K : PySem.W.Frag) : Sp := fun vs H Q _ => ∃ (a : Addr) (ns : List Int), vs = [.ref a] ∧ SqL K H a (ns.map V.int) ∧ ns.length ≤ 63 ∧ ∀ (p q : Addr) (H' : Hp), H p = none → H q = none → BoxAt H' p q → Same H H' → Q (.ref p) H'
/-- _law_take(box, sides): a number below sides; the box is a box again -/
def spTake : Sp := fun vs H Q _ => ∃ (p q : Addr) (n : Int), vs = [.ref p, .int n] ∧ BoxAt H p q ∧ 0 < n ∧ n < 1073741824 ∧ ∀ (r : Int) (H' : Hp), 0 ≤ r → r < n → BoxAt H' p q → But p H H' → Q (.int r) H'
theorem atI0 {α : Type} {xs : List α} {i : Int} {v : α} (h0 : 0 ≤ i) (h : xs[i.toNat]? = some v) : atI xs i = some v := by
  have := atI_nat (j := i.toNat) h
  rwa [Int.toNat_of_nonneg h0] at this
end K
namespace K
open PySem PySem.Spec PyProof.Rows L2
/-- None, bools, ints, texts -/
def flat : V → Bool
  | .non | .bl _ | .int _ | .str _ => true
  | _ => false
/-- the same data, of less than n levels -/
def Eqv : Nat → Hp → V → V → Prop
  | 0, _, _, _ => False
  | n + 1, H, x, y => (x = y ∧ flat x = true) ∨ ∃ (a b : Addr) (xs ys : List V), x = .ref a ∧ y = .ref b ∧ ((H a = some (.lst xs) ∧ H b = some (.lst ys)) ∨ (H a = some (.tup xs) ∧ H b = some (.tup ys))) ∧ xs.length = ys.length ∧ xs.length ≤ 1000 ∧
      ∀ (i : Nat) (u v : V), xs[i]? = some u → ys[i]? = some v → Eqv n H u v
theorem Eqv.same {H H' : Hp} (s : Same H H') : ∀ {n : Nat} {x y : V}, Eqv n H x y → Eqv n H' x y
  | n + 1, x, y, h => by
    rcases h with h | ⟨a, b, xs, ys, e1, e2, h, hl, hz, hi⟩
    · exact .inl h
    · refine .inr ⟨a, b, xs, ys, e1, e2, ?_, hl, hz, fun i u v hu hv => (hi i u v hu hv).same s⟩
      rcases h with ⟨h1, h2⟩ | ⟨h1, h2⟩
      · exact .inl ⟨s _ _ h1, s _ _ h2⟩
      · exact .inr ⟨s _ _ h1, s _ _ h2⟩
def spSame (n : Nat) : Sp := fun vs H Q _ => ∃ (x y : V), vs = [x, y] ∧ Eqv n H x y ∧ ∀ H', Same H H' → Q (.bl true) H'
theorem kit2 {K : PySem.W.Frag} {t T U : String} {b c : Bool} (h : kitB t T = some b) (h2 : kitB t U = some c) : PySem.W.kitAny K (.type t) [.type T, .type U] = some (b || c) := by
  refine kitAny_cons (kit_ty h) (fun e => ?_) (fun e => by rw [e]; rfl)
  subst e
  refine kitAny_cons (kit_ty h2) (fun e => ?_) (fun e => by rw [e]; rfl)
  subst e
  exact kitAny_nil
theorem walk_zipTT {K : PySem.W.Frag} {a b : Addr} {xs ys : List V} {n : Nat} (hn : n = min xs.length ys.length) : Walk (RZ.ItzT K a b) n (fun H => SqT K H a xs ∧ SqT K H b ys) (YPair (fun i => xs[i]?) (fun i => ys[i]?)) := by
  subst hn
  refine ⟨fun i _ hi q => ?_, fun _ q => ⟨xs, ys, q.1, q.2, by omega⟩, fun i H v H' _ q y => ?_⟩
  · have h1 : i < xs.length := by omega
    have h2 : i < ys.length := by omega
    exact ⟨xs, ys, xs[i], ys[i], q.1, q.2, by simp [h1], by simp [h2]⟩
  · obtain ⟨T, x, z, h1, h2, h3, h4, h5⟩ := y
    exact ⟨T, x, z, h1, h2, h3, h4 xs q.1, h5 ys q.2⟩
theorem fnok_never {P : Program} {w : World} {K : PySem.W.Frag} {mg : Str → Option Value} {base : Heap} {f : Addr} {fd : FuncData} {ps : List Str} {sp : Sp} {k : Nat} (h : ∀ vs H Q E, ¬ sp vs H Q E) : FnOk P w K mg base CX0 k f fd ps sp :=
  ⟨fun vs H Q E q => (h _ _ _ _ q).elim, fun A outer s H args us vs Q E hr he hb hv hs => (h _ _ _ _ hs).elim⟩
end K
namespace K
open PySem PySem.Spec PyProof.Rows L2
open Sw (T3 Dist at? relax roundOf rounds)
/-- a tie as it stands in a tuple -/
def tv (e : T3) : List V := [.int (e.1 : Nat), .int (e.2.1 : Nat), .int (e.2.2 : Nat)]
/-- a list of ties -/
def TiesAt (H : Hp) (t : Addr) (ts : List T3) : Prop := ∃ as : List Addr, H t = some (.lst (as.map V.ref)) ∧ Paired (fun a e => H a = some (.tup (tv e))) as ts
theorem paired_mono {α β : Type} {R R' : α → β → Prop} (h : ∀ a b, R a b → R' a b) : ∀ {xs : List α} {ys : List β}, Paired R xs ys → Paired R' xs ys
  | _, _, .nil => .nil
  | _, _, .cons r t => .cons (h _ _ r) (paired_mono h t)
theorem paired_len {α β : Type} {R : α → β → Prop} : ∀ {xs : List α} {ys : List β}, Paired R xs ys → xs.length = ys.length
  | _, _, .nil => rfl
  | _, _, .cons r t => by simp [paired_len t]
theorem TiesAt.same {H H' : Hp} {t : Addr} {ts : List T3} (h : TiesAt H t ts) (s : Same H H') : TiesAt H' t ts := by
  obtain ⟨as, h1, h2⟩ := h
  exact ⟨as, s _ _ h1, paired_mono (fun a e q => s _ _ q) h2⟩
/-- a price or None -/
def ov : Option Nat → V
  | none => .non
  | some n => .int (n : Nat)
/-- a list of prices stands at p -/
def DistAt (H : Hp) (p : Addr) (d : Dist) : Prop := H p = some (.lst (d.map ov))
theorem at_of {d : Dist} {v : Nat} (h : v < d.length) : (d.map ov)[v]? = some (ov (at? d v)) := by
  rw [List.getElem?_map, List.getElem?_eq_getElem h]
  unfold at?
  rw [List.getElem?_eq_getElem h]
  rfl
theorem set_ov (d : Dist) (v : Nat) (x : Option Nat) : (d.map ov).set v (ov x) = (d.set v x).map ov := by rw [List.map_set]
theorem ixN_nat {n j : Nat} (h : j < n) : ixN n (j : Int) = some j := by
  unfold ixN
  rw [if_pos (by omega), if_pos (by omega), Int.toNat_natCast]
/-- the ties both ways about, tie by tie -/
def both (ts : List T3) : List T3 := ts.flatMap fun e => [e, (e.2.1, e.1, e.2.2)]
theorem both_mem (ts : List T3) (e : T3) : e ∈ both ts ↔ (e ∈ ts ∨ (e.2.1, e.1, e.2.2) ∈ ts) := by
  unfold both
  rw [List.mem_flatMap]
  constructor
  · rintro ⟨x, hx, m⟩
    simp only [List.mem_cons, List.not_mem_nil, or_false] at m
    rcases m with q | q
    · exact .inl (q ▸ hx)
    · subst q; exact .inr hx
  · rintro (h | h)
    · exact ⟨e, h, by simp⟩
    · exact ⟨_, h, by simp⟩
/-- the least prices, as they are reckoned tie by tie -/
def farD (n : Nat) (ts : List T3) (g : Nat) : Dist := rounds (both ts) n (Sw.start n g)
/-- the ties lie below n -/
def Fits (n : Nat) (ts : List T3) : Prop := ∀ e ∈ ts, e.1 < n ∧ e.2.1 < n
theorem both_lt {n : Nat} {ts : List T3} (h : Fits n ts) : ∀ e ∈ both ts, e.1 < n ∧ e.2.1 < n := fun e m => by
  rcases (both_mem ts e).mp m with q | q
  · exact h e q
  · have := h _ q
    exact ⟨this.2, this.1⟩
theorem farD_is {n g : Nat} {ts : List T3} (h : Fits n ts) (hg : g < n) : Sw.IsFar (both ts) n g (farD n ts g) := Sw.far_is (both ts) (fun _ => Iff.rfl) (fun e m => (both_lt h e m).1) hg
def spCheck : Sp := fun vs H Q _ => ∃ (n g : Nat), vs = [.int (n : Nat), .int (g : Nat)] ∧ g < n ∧ Q .non H
def spCheap : Sp := fun vs H Q _ => ∃ (p : Addr) (d : Dist) (a b c : Nat), vs = [.ref p, .int (a : Nat), .int (b : Nat), .int (c : Nat)] ∧ DistAt H p d ∧ a < d.length ∧ b < d.length ∧ ∀ H', DistAt H' p (relax d (a, b, c)) → But p H H' → Q .non H'
def spFar : Sp := fun vs H Q _ => ∃ (n g : Nat) (t : Addr) (ts : List T3), vs = [.int (n : Nat), .ref t, .int (g : Nat)] ∧ g < n ∧ n ≤ 1000 ∧ TiesAt H t ts ∧ Fits n ts ∧ ∀ p H', H p = none → Same H H' → DistAt H' p (farD n ts g) → Q (.ref p) H'
end K
namespace K
open PySem PySem.Spec PyProof.Rows L2
open Sw (T3 Dist at? relax roundOf rounds)
/-- a row of pairs of houses, below n, the lesser one first -/
def PairsV (H : Hp) (n : Nat) (xs : List V) : Prop := ∃ (as : List Addr) (ps : List (Nat × Nat)), xs = as.map V.ref ∧ Paired (fun a p => H a = some (.tup [.int (p.1 : Nat), .int (p.2 : Nat)])) as ps ∧ ∀ p ∈ ps, p.1 < p.2 ∧ p.2 < n
theorem PairsV.at {H H' : Hp} {n : Nat} {xs : List V} (h : PairsV H n xs) (k : ∀ a ys, H a = some (.tup ys) → H' a = some (.tup ys)) : PairsV H' n xs := by
  obtain ⟨as, ps, e, h1, h2⟩ := h
  exact ⟨as, ps, e, paired_mono (fun a p q => k _ _ q) h1, h2⟩
theorem PairsV.nil {H : Hp} {n : Nat} : PairsV H n [] := ⟨[], [], rfl, .nil, fun p m => by cases m⟩
theorem paired_append {α β : Type} {R : α → β → Prop} : ∀ {xs xs' : List α} {ys ys' : List β}, Paired R xs ys → Paired R xs' ys' → Paired R (xs ++ xs') (ys ++ ys')
  | _, _, _, _, .nil, s => s
  | _, _, _, _, .cons r t, s => .cons r (paired_append t s)
theorem PairsV.append {H : Hp} {n : Nat} {xs ys : List V} (h : PairsV H n xs) (h' : PairsV H n ys) : PairsV H n (xs ++ ys) := by
  obtain ⟨as, ps, rfl, h1, h2⟩ := h
  obtain ⟨as', ps', rfl, h1', h2'⟩ := h'
  refine ⟨as ++ as', ps ++ ps', by rw [List.map_append], paired_append h1 h1', fun p m => ?_⟩
  rcases List.mem_append.mp m with q | q
  · exact h2 p q
  · exact h2' p q
theorem PairsV.one {H : Hp} {n i j : Nat} {a : Addr} (h : H a = some (.tup [.int (i : Nat), .int (j : Nat)])) (h1 : i < j) (h2 : j < n) : PairsV H n [.ref a] :=
  ⟨[a], [(i, j)], rfl, .cons h .nil, fun p m => by simp at m; subst m; exact ⟨h1, h2⟩⟩
theorem PairsV.flat {H : Hp} {n : Nat} : ∀ {xss : List (List V)}, (∀ xs ∈ xss, PairsV H n xs) → PairsV H n xss.flatten
  | [], _ => PairsV.nil
  | xs :: xss, h => (h xs List.mem_cons_self).append (PairsV.flat fun ys m => h ys (List.mem_cons_of_mem _ m))
theorem flat_len {α : Type} {n : Nat} : ∀ {xss : List (List α)}, (∀ xs ∈ xss, xs.length ≤ n) → xss.flatten.length ≤ xss.length * n
  | [], _ => by simp
  | xs :: xss, h => by
    have h1 := h xs List.mem_cons_self
    have h2 := flat_len (xss := xss) fun ys m => h ys (List.mem_cons_of_mem _ m)
    rw [List.flatten_cons, List.length_append, List.length_cons, Nat.succ_mul]
    omega
/-- good ties below n -/
def Good (n : Nat) (ts : List T3) : Prop := ∀ e ∈ ts, e.1 < e.2.1 ∧ e.2.1 < n ∧ 1 ≤ e.2.2 ∧ e.2.2 ≤ 9
theorem Good.fits {n : Nat} {ts : List T3} (h : Good n ts) : Fits n ts := fun e m => by have := h e m; omega
def spPairs : Sp := fun vs H Q _ => ∃ n : Nat, vs = [.int (n : Nat)] ∧ 0 < n ∧ n ≤ 8 ∧ ∀ (p : Addr) (H' : Hp) (xs : List V), H p = none → Same H H' → H' p = some (.lst xs) → PairsV H' n xs → xs.length ≤ 64 → Q (.ref p) H'
def spShuf : Sp := fun vs H Q _ => ∃ (p q t : Addr) (xs : List V), vs = [.ref p, .ref t] ∧ BoxAt H p q ∧ t ≠ p ∧ H t = some (.lst xs) ∧ xs.length ≤ 1000 ∧ ∀ (r : Addr) (H' : Hp) (ys : List V), H r = none → BoxAt H' p q → But p H H' → H' r = some (.lst ys) → ys.Perm xs → Q (.ref r) H'
def spSome : Sp := fun vs H Q _ => ∃ (p q : Addr) (n : Nat) (o : Int), vs = [.ref p, .int (n : Nat), .int o] ∧ BoxAt H p q ∧ 0 < n ∧ n ≤ 8 ∧ ∀ (r : Addr) (H' : Hp) (ts : List T3), H r = none → BoxAt H' p q → But p H H' → TiesAt H' r ts → Good n ts → ts.length ≤ 14 → Q (.ref r) H'
end K
namespace K
open PySem PySem.Spec PyProof.Rows L2
open Sw (T3 Dist at? relax roundOf rounds)
def tupData (e : T3) : PyData := .tuple [.int (e.1 : Nat), .int (e.2.1 : Nat), .int (e.2.2 : Nat)]
def tieData (ts : List T3) : PyData := .list (ts.map tupData)
theorem dp_ties {K : PySem.W.Frag} {H : Hp} {t : Addr} {ts : List T3} (h : TiesAt H t ts) : Dp K H (.ref t) (tieData ts) := by
  obtain ⟨as, h1, h2⟩ := h
  refine .lst (SqL.of h1) ?_
  clear h1
  induction h2 with
  | nil => exact .nil
  | cons r _ ih => exact .cons (.tup (SqT.of r) (.cons (.int _) (.cons (.int _) (.cons (.int _) .nil)))) ih
theorem lay_ties (ts : List T3) : PyData.canLayAll0 (ts.map tupData) = true := by
  induction ts with
  | nil => simp [PyData.canLayAll0]
  | cons e ts ih => simp [PyData.canLayAll0, PyData.canLay0, tupData, ih]
theorem depth_ties (ts : List T3) : PyData.depthAll (ts.map tupData) ≤ 2 := by
  induction ts with
  | nil => simp [PyData.depthAll]
  | cons e ts ih =>
    have h1 : (tupData e).depth ≤ 2 := by simp [tupData, PyData.depth, PyData.depthAll]
    simp only [List.map_cons, PyData.depthAll]
    omega
theorem shaped_ties (ts : List T3) : SeqAt.shaped (tieData ts) = true := by
  unfold SeqAt.shaped tieData
  have h1 := lay_ties ts
  have h2 := depth_ties ts
  have h3 : (PyData.list (ts.map tupData)).canLay0 = true := by simpa [PyData.canLay0] using h1
  have h4 : (PyData.list (ts.map tupData)).depth ≤ 64 := by
    have e : (PyData.list (ts.map tupData)).depth = PyData.depthAll (ts.map tupData) + 1 := by simp [PyData.depth, Nat.add_comm]
    omega
  rw [h3, decide_eq_true h4]
  rfl
/-- the law's own going round -/
def swp (e : T3) : T3 := (e.2.1, e.1, e.2.2)
def lfarD (n : Nat) (ts : List T3) (g : Nat) : Dist := rounds (ts ++ ts.map swp) n (Sw.start n g)
theorem lfar_mem (ts : List T3) (e : T3) : e ∈ both ts ↔ e ∈ ts ++ ts.map swp := by
  rw [both_mem, List.mem_append, List.mem_map]
  constructor
  · rintro (h | h)
    · exact .inl h
    · exact .inr ⟨_, h, rfl⟩
  · rintro (h | ⟨x, hx, rfl⟩)
    · exact .inl h
    · exact .inr hx
theorem lfarD_is {n g : Nat} {ts : List T3} (h : Fits n ts) (hg : g < n) : Sw.IsFar (both ts) n g (lfarD n ts g) := Sw.far_is _ (lfar_mem ts) (fun e m => (both_lt h e m).1) hg
theorem far_lfar {n g : Nat} {ts : List T3} (h : Fits n ts) (hg : g < n) : lfarD n ts g = farD n ts g := Sw.far_one (lfarD_is h hg) (farD_is h hg)
def spLFar : Sp := fun vs H Q _ => ∃ (n g : Nat) (t : Addr) (ts : List T3), vs = [.int (n : Nat), .ref t, .int (g : Nat)] ∧ g < n ∧ n ≤ 1000 ∧ TiesAt H t ts ∧ ts.length ≤ 400 ∧ Fits n ts ∧ ∀ p H', H p = none → Same H H' → DistAt H' p (lfarD n ts g) → Q (.ref p) H'
theorem ov_flat (x : Option Nat) : flat (ov x) = true := by cases x <;> rfl
theorem eqv_dist {H : Hp} {a b : Addr} {d : Dist} {m : Nat} (h1 : DistAt H a d) (h2 : DistAt H b d) (hl : d.length ≤ 1000) : Eqv (m + 2) H (.ref a) (.ref b) := by
  refine .inr ⟨a, b, _, _, rfl, rfl, .inl ⟨h1, h2⟩, rfl, by rw [List.length_map]; exact hl, fun i u v hu hv => ?_⟩
  rw [hu] at hv
  cases hv
  rw [List.getElem?_map] at hu
  obtain ⟨x, _, rfl⟩ := Option.map_eq_some_iff.mp hu
  exact .inl ⟨rfl, ov_flat x⟩
/-- the law: a list of at most 63 ints is handed in, True comes out -/
def spLaw (K : PySem.W.Frag) : Sp := fun vs H Q _ => ∃ (a : Addr) (ns : List Int), vs = [.ref a] ∧ SqL K H a (ns.map V.int) ∧ ns.length ≤ 63 ∧ ∀ H', Q (.bl true) H'
theorem paired_pick {α β : Type} {R : α → β → Prop} : ∀ {xs : List α} {ys : List β}, Paired R xs ys → ∀ xs' : List α, (∀ x ∈ xs', x ∈ xs) → ∃ ys' : List β, Paired R xs' ys' ∧ ∀ y ∈ ys', y ∈ ys
  | xs, ys, h, [], _ => ⟨[], .nil, fun y m => by cases m⟩
  | xs, ys, h, x :: xs', hs => by
    obtain ⟨i, hi, e⟩ := List.getElem_of_mem (hs x List.mem_cons_self)
    obtain ⟨y, ey, r⟩ := paired_at h i x (by rw [List.getElem?_eq_getElem hi, e])
    obtain ⟨ys', h1, h2⟩ := paired_pick h xs' fun z m => hs z (List.mem_cons_of_mem _ m)
    refine ⟨y :: ys', .cons r h1, fun z m => ?_⟩
    rcases List.mem_cons.mp m with q | q
    · subst q; exact List.mem_of_getElem? ey
    · exact h2 z q
theorem perm_refs {as : List Addr} {ys : List V} (h : ys.Perm (as.map V.ref)) : ∃ bs : List Addr, ys = bs.map V.ref ∧ bs.Perm as := by
  have hm : ∀ y ∈ ys, ∃ b, y = V.ref b := fun y m => by
    obtain ⟨b, _, e⟩ := List.mem_map.mp (h.mem_iff.mp m)
    exact ⟨b, e.symm⟩
  have key : ∀ zs : List V, (∀ y ∈ zs, ∃ b, y = V.ref b) → ∃ bs : List Addr, zs = bs.map V.ref := by
    intro zs
    induction zs with
    | nil => intro _; exact ⟨[], rfl⟩
    | cons z zs ih =>
      intro hz
      obtain ⟨b, e⟩ := hz z List.mem_cons_self
      obtain ⟨bs, e2⟩ := ih fun y m => hz y (List.mem_cons_of_mem _ m)
      exact ⟨b :: bs, by rw [e, e2]; rfl⟩
  obtain ⟨bs, e⟩ := key ys hm
  refine ⟨bs, e, ?_⟩
  rw [e] at h
  have h2 := h.map (fun v => match v with | V.ref a => a | _ => 0)
  rw [List.map_map, List.map_map] at h2
  have e1 : ∀ l : List Addr, l.map ((fun v => match v with | V.ref a => a | _ => 0) ∘ V.ref) = l := fun l => by
    induction l with
    | nil => rfl
    | cons x l ih => rw [List.map_cons, ih]; rfl
  rw [e1, e1] at h2
  exact h2
end K

namespace K
open PySem PySem.Spec PyProof.Rows L2
/-- a def that can be called: its promise, its name, its place, how its arguments bind -/
structure Cal (P : Program) (w : World) (K : PySem.W.Frag) (mg : Str → Option Value) (base : Heap) (k : Nat) (x : Str) (f : Addr) (fd : FuncData) (ps : List Str) (sp : Sp) : Prop where
  ok : FnOk P w K mg base CX0 k f fd ps sp
  g : mg x = some (.ref f)
  kp : PySem.W.keepIn K (.ref f) = true
  b : Binds K fd ps []
/-- the built-in names that the text reads stand for the built-in things -/
structure BT (mg : Str → Option Value) : Prop where
  len : mg "len" = none
  range : mg "range" = none
  list : mg "list" = none
  tuple : mg "tuple" = none
  isinstance : mg "isinstance" = none
  bool : mg "bool" = none
  int : mg "int" = none
  str : mg "str" = none
  all : mg "all" = none
  zip : mg "zip" = none
  sum : mg "sum" = none
  min : mg "min" = none
  sorted : mg "sorted" = none
  abs : mg "abs" = none
  enumerate : mg "enumerate" = none
end K

namespace K
open PySem PySem.Spec PyProof.Rows L2
open Sw (T3 Dist at? relax roundOf rounds)
theorem rep_non (n : Nat) : (List.replicate n [V.non]).flatten = (List.replicate n (none : Option Nat)).map ov := by
  induction n with
  | zero => rfl
  | succ n ih => rw [List.replicate_succ, List.replicate_succ, List.flatten_cons, ih]; rfl
theorem take_succ_of {α : Type} {l : List α} {i : Nat} {x : α} (h : l[i]? = some x) : l.take (i + 1) = l.take i ++ [x] := by
  rw [List.take_add_one, h]; rfl
theorem both_snoc (ts : List T3) (e : T3) : both (ts ++ [e]) = both ts ++ [e, (e.2.1, e.1, e.2.2)] := by
  unfold both
  rw [List.flatMap_append]
  simp
theorem roundOf_append (L M : List T3) (d : Dist) : roundOf (L ++ M) d = roundOf M (roundOf L d) := List.foldl_append
theorem map_ref_at {as : List Addr} {i : Nat} {y : V} (h : (as.map V.ref)[i]? = some y) : ∃ a, as[i]? = some a ∧ y = .ref a := by
  rw [List.getElem?_map] at h
  obtain ⟨a, e, q⟩ := Option.map_eq_some_iff.mp h
  exact ⟨a, e, q.symm⟩
end K
namespace K
open PySem PySem.Spec PyProof.Rows L2
open Sw (T3 Dist at? relax roundOf rounds IsNext Cand IsFar nbr candL)
/-- a row of neighbours (house, price) -/
def NbrAt (H : Hp) (p : Addr) (L : List (Nat × Nat)) : Prop := ∃ as : List Addr, H p = some (.lst (as.map V.ref)) ∧ Paired (fun a q => H a = some (.tup [.int (q.1 : Nat), .int (q.2 : Nat)])) as L
theorem NbrAt.same {H H' : Hp} {p : Addr} {L : List (Nat × Nat)} (h : NbrAt H p L) (s : Same H H') : NbrAt H' p L := by
  obtain ⟨as, h1, h2⟩ := h
  exact ⟨as, s _ _ h1, paired_mono (fun a q e => s _ _ e) h2⟩
theorem nbr_both (ts : List T3) (h u c : Nat) : (u, c) ∈ nbr ts h ↔ (h, u, c) ∈ both ts := by
  rw [Sw.nbr_mem, both_mem]
theorem both_sym (ts : List T3) : ∀ a b c, (a, b, c) ∈ both ts → (b, a, c) ∈ both ts := fun a b c m => by
  rw [both_mem] at m ⊢
  exact m.symm
def spNbr : Sp := fun vs H Q _ => ∃ (t : Addr) (ts : List T3) (h : Nat), vs = [.ref t, .int (h : Nat)] ∧ TiesAt H t ts ∧ ts.length ≤ 400 ∧ ∀ p H', H p = none → Same H H' → NbrAt H' p (nbr ts h) → Q (.ref p) H'
def spNextH : Sp := fun vs H Q _ => ∃ (p t : Addr) (d : Dist) (ts : List T3) (n g h : Nat), vs = [.ref p, .ref t, .int (g : Nat), .int (h : Nat)] ∧ DistAt H p d ∧ TiesAt H t ts ∧ ts.length ≤ 400 ∧ Fits n ts ∧ IsFar (both ts) n g d ∧ h < n ∧
  ∀ x H', IsNext (both ts) d g h x → Same H H' → Q (ov x) H'
/-- the list of next houses -/
def NextsAt (H : Hp) (p : Addr) (E : List T3) (d : Dist) (n g : Nat) : Prop := ∃ xs : List (Option Nat), H p = some (.lst (xs.map ov)) ∧ xs.length = n ∧ ∀ h < n, IsNext E d g h (at? xs h)
def spNexts : Sp := fun vs H Q _ => ∃ (n g : Nat) (t : Addr) (ts : List T3), vs = [.int (n : Nat), .ref t, .int (g : Nat)] ∧ g < n ∧ n ≤ 1000 ∧ TiesAt H t ts ∧ ts.length ≤ 400 ∧ Fits n ts ∧ ∀ p H', H p = none → Same H H' → NextsAt H' p (both ts) (farD n ts g) n g → Q (.ref p) H'
def spLNext : Sp := fun vs H Q _ => ∃ (n g h : Nat) (t : Addr) (ts : List T3), vs = [.int (n : Nat), .ref t, .int (h : Nat), .int (g : Nat)] ∧ g < n ∧ h < n ∧ n ≤ 1000 ∧ TiesAt H t ts ∧ ts.length ≤ 400 ∧ Good n ts ∧
  ∀ x H', IsNext (both ts) (farD n ts g) g h x → Same H H' → Q (ov x) H'
theorem nexts_eqv {H : Hp} {a b : Addr} {E : List T3} {d : Dist} {n g m : Nat} (h1 : NextsAt H a E d n g) (h2 : NextsAt H b E d n g) (hn : n ≤ 1000) : Eqv (m + 2) H (.ref a) (.ref b) := by
  obtain ⟨xs, e1, l1, n1⟩ := h1
  obtain ⟨ys, e2, l2, n2⟩ := h2
  have e : xs = ys := by
    refine List.ext_getElem? fun i => ?_
    by_cases hi : i < n
    · have := Sw.next_one (n1 i hi) (n2 i hi)
      unfold at? at this
      rw [List.getElem?_eq_getElem (by omega), List.getElem?_eq_getElem (by omega)] at this ⊢
      simpa using this
    · rw [List.getElem?_eq_none (by omega), List.getElem?_eq_none (by omega)]
  subst e
  exact eqv_dist e1 e2 (by omega)
theorem NextsAt.same {H H' : Hp} {p : Addr} {E : List T3} {d : Dist} {n g : Nat} (h : NextsAt H p E d n g) (s : Same H H') : NextsAt H' p E d n g := by
  obtain ⟨xs, h1, h2⟩ := h
  exact ⟨xs, s _ _ h1, h2⟩
end K
namespace K
open PySem PySem.Spec PyProof.Rows L2
open Sw (T3 Dist at? relax roundOf rounds IsNext Cand IsFar nbr candL)
theorem tv_inj {e u : T3} (h : tv e = tv u) : e = u := by
  obtain ⟨a, b, c⟩ := e
  obtain ⟨a', b', c'⟩ := u
  unfold tv at h
  injection h with h1 h
  injection h with h2 h
  injection h with h3 _
  injection h1 with h1
  injection h2 with h2
  injection h3 with h3
  have h1 : (a : Int) = a' := h1
  have h2 : (b : Int) = b' := h2
  have h3 : (c : Int) = c' := h3
  have q1 : a = a' := by omega
  have q2 : b = b' := by omega
  have q3 : c = c' := by omega
  rw [q1, q2, q3]
theorem ties_mem {H : Hp} {as : List Addr} {ts : List T3} (h : Paired (fun a e => H a = some (.tup (tv e))) as ts) (e : T3) : e ∈ ts ↔ ∃ a ∈ as, H a = some (.tup (tv e)) := by
  induction h with
  | nil => exact ⟨fun m => (by cases m), fun ⟨a, m, _⟩ => (by cases m)⟩
  | @cons a u as ts r _ ih =>
    constructor
    · intro m
      rcases List.mem_cons.mp m with q | q
      · subst q; exact ⟨a, List.mem_cons_self, r⟩
      · obtain ⟨b, m2, e2⟩ := ih.mp q
        exact ⟨b, List.mem_cons_of_mem _ m2, e2⟩
    · rintro ⟨b, m, e2⟩
      rcases List.mem_cons.mp m with q | q
      · subst q
        rw [r] at e2
        injection e2 with e2
        injection e2 with e2
        rw [tv_inj e2]
        exact List.mem_cons_self
      · exact List.mem_cons_of_mem _ (ih.mpr ⟨b, q, e2⟩)
theorem both_iff {ts us : List T3} (h : ∀ e, (e ∈ us ∨ swp e ∈ us) ↔ (e ∈ ts ∨ swp e ∈ ts)) (e : T3) : e ∈ both us ↔ e ∈ both ts := by
  rw [both_mem, both_mem]
  exact h e
theorem swapped_iff {us ts : List T3} (h : Paired (fun u e => u = e ∨ u = swp e) us ts) (e : T3) : (e ∈ us ∨ swp e ∈ us) ↔ (e ∈ ts ∨ swp e ∈ ts) := by
  induction h with
  | nil => exact ⟨fun m => m, fun m => m⟩
  | @cons u x us ts r _ ih =>
    have key : (e = u ∨ swp e = u) ↔ (e = x ∨ swp e = x) := by
      rcases r with q | q
      · rw [q]
      · subst q
        obtain ⟨a, b, c⟩ := e
        obtain ⟨a', b', c'⟩ := x
        unfold swp
        simp only [Prod.mk.injEq]
        constructor
        · rintro (⟨h1, h2, h3⟩ | ⟨h1, h2, h3⟩)
          · exact .inr ⟨h2, h1, h3⟩
          · exact .inl ⟨h2, h1, h3⟩
        · rintro (⟨h1, h2, h3⟩ | ⟨h1, h2, h3⟩)
          · exact .inr ⟨h2, h1, h3⟩
          · exact .inl ⟨h2, h1, h3⟩
    simp only [List.mem_cons]
    constructor
    · rintro ((q | q) | (q | q))
      · rcases key.mp (.inl q) with z | z
        · exact .inl (.inl z)
        · exact .inr (.inl z)
      · rcases ih.mp (.inl q) with z | z
        · exact .inl (.inr z)
        · exact .inr (.inr z)
      · rcases key.mp (.inr q) with z | z
        · exact .inl (.inl z)
        · exact .inr (.inl z)
      · rcases ih.mp (.inr q) with z | z
        · exact .inl (.inr z)
        · exact .inr (.inr z)
    · rintro ((q | q) | (q | q))
      · rcases key.mpr (.inl q) with z | z
        · exact .inl (.inl z)
        · exact .inr (.inl z)
      · rcases ih.mpr (.inl q) with z | z
        · exact .inl (.inr z)
        · exact .inr (.inr z)
      · rcases key.mpr (.inr q) with z | z
        · exact .inl (.inl z)
        · exact .inr (.inl z)
      · rcases ih.mpr (.inr q) with z | z
        · exact .inl (.inr z)
        · exact .inr (.inr z)
theorem farD_cong {n g : Nat} {ts us : List T3} (h1 : Fits n ts) (h2 : Fits n us) (hg : g < n) (h : ∀ e, e ∈ both us ↔ e ∈ both ts) : farD n us g = farD n ts g :=
  Sw.far_one (Sw.far_cong h (farD_is h2 hg)) (farD_is h1 hg)
theorem NextsAt.cong {H : Hp} {p : Addr} {E E' : List T3} {d : Dist} {n g : Nat} (he : ∀ e, e ∈ E ↔ e ∈ E') (h : NextsAt H p E d n g) : NextsAt H p E' d n g := by
  obtain ⟨xs, h1, h2, h3⟩ := h
  exact ⟨xs, h1, h2, fun i hi => Sw.next_cong he (h3 i hi)⟩
theorem fits_of {n : Nat} {ts us : List T3} (h : Fits n ts) (he : ∀ e, e ∈ both us ↔ e ∈ both ts) : Fits n us := fun e m => both_lt h e ((he e).mp ((both_mem us e).mpr (.inl m)))
end K

namespace PySem
namespace F
theorem args_minD (a d : Value) : argsOk "min" ⟨[a], [(Str.ofString "default", d)]⟩ := by unfold argsOk; kernel_rfl
end F
section
variable {prog : Program} {w : World} {A : Around} {E : Value → Shared → Prop} {s : Shared}
/-- a built-in's call with keywords, where the built-in goes on as another one -/
theorem call_tree_kw {id : String} {b : Builtin} {args : List Value} {kw : List (Str × Value)} {Q : Value → Shared → Prop} (hk : builtinKind id = none) (hp : plainId id = true) (hb : entryFor table id = some b) (ha : argsOk id ⟨args, kw⟩)
    (hc : wpAny (model prog w) A.in1 (b ⟨args, kw⟩) (fun fin s' => match fin with
      | .done f => (match (Except.ok f : Result) with | .ok (.ret v) => Q v s' | .ok _ => False | .error e => E e s')
      | .again c' => c'.quiet = true ∧ codeAny (model prog w) A c' (fun r s' => match r with | .ok (.ret v) => Q v s' | .ok _ => False | .error e => E e s') s') E s) : wpAny (model prog w) A (call (.builtin id) args kw) Q E s := by
  refine wpAny_call (codeAny_call_builtin hp hb ?_)
  simp only [checkBuiltinCall, hk]
  cases hsig : Manifest.signature? id with
  | none => exact wpAny_pure hc
  | some sig =>
    have hz : Bind.checkArgs id sig ⟨args, kw⟩ = pure () := by simpa only [argsOk, hsig] using ha
    show wpAny _ A.in1 (Bind.checkArgs id sig ⟨args, kw⟩) _ _ s
    rw [hz]; exact wpAny_pure hc
end
section
variable {prog : Program} {w : World} {A : Around} {R : Result → Shared → Prop} {I : Addr} {fp wr : List Addr} {n : Nat} {P : Nat → Value → Prop} {St : Nat → Heap → Prop}
theorem minD_name : (toString "min" ++ toString ".loop" : String) = "min.loop" := by decide
theorem minD_loop (d : Value) (W : Walks prog w A.in1 I fp wr n P St) (bt : Nat → Nat → Bool) (hcmp : CmpOf prog w A.in1 .Lt P bt) (S : Addr) (hSf : S ∉ fp) :
    ∀ (k j : Nat) (s : Shared) (vb : Value) (c : Nat), n - (j + 1) = k → j + 1 ≤ n → St (j + 1) s.heap → P (argBest bt j) vb → s.heap.get? S = some { cls := .type "list", dict := none, data := .seq #[vb, vb] c, slots := #[] } →
    (∀ v h' tk, P (argBest bt (n - 1)) v → (∀ b o, b ∉ wr → b ≠ S → s.heap.get? b = some o → h'.get? b = some o) → R (.ok (.ret v)) { s with heap := h', toks := tk }) → codeAny (model prog w) A (.builtin "min.loop" ⟨[.ref I, .none, .ref S], [(Str.ofString "default", d)]⟩) R s := by
  have nS : S ∉ wr := fun h => hSf (W.sub _ h)
  intro k
  induction k with
  | zero =>
    intro j s vb c hk hj st pb e0 hR
    have hin : j + 1 = n := by omega
    refine codeAny_builtin F.entry_min_loop ?_
    rw [Around.under_plainId F.plain_min_loop _]
    show wpAny _ A.in1 (seqItems? (.ref S) >>= _) _ _ s
    refine wpAny_bind (wpAny_seqItems e0 rfl ?_)
    show wpAny _ A.in1 (tryCatch (pyNext (.ref I)) _ >>= _) _ _ s
    refine wpAny_bind (wpAny_tryCatch (W.done s _ _ (hin ▸ st) fun h' tk keep => ?_))
    have e1 := keep S _ nS e0
    show wpAny _ A.in1 (updateSeq S (fun _ => #[]) >>= _) _ _ _
    refine wpAny_bind (wpAny_updateSeq e1 rfl (wpAny_bind (wpAny_letGo (wpAny_pure ?_))))
    exact hR vb _ tk (by rw [← hin]; exact pb) fun b o hbw hbS e => (Heap.get?_update_other _ _ (Ne.symm hbS)).trans (keep b o hbw e)
  | succ k ih =>
    intro j s vb c hk hj st pb e0 hR
    have hlt : j + 1 < n := by omega
    refine codeAny_builtin F.entry_min_loop ?_
    rw [Around.under_plainId F.plain_min_loop _]
    show wpAny _ A.in1 (seqItems? (.ref S) >>= _) _ _ s
    refine wpAny_bind (wpAny_seqItems e0 rfl ?_)
    show wpAny _ A.in1 (tryCatch (pyNext (.ref I)) _ >>= _) _ _ s
    refine wpAny_bind (wpAny_tryCatch (W.item (j + 1) s _ _ hlt st fun v h' tk pv st' keep => ?_))
    have e1 := keep S _ nS e0
    show wpAny _ A.in1 (tryCatch (holding [v, v] (richCompare .Lt v vb >>= _)) _ >>= _) _ _ _
    refine wpAny_bind (wpAny_tryCatch (wpAny_holding (wpAny_bind (hcmp (j + 1) (argBest bt j) v vb _ _ _ pv pb ?_))))
    refine wpAny_bind (wpAny_holding (wpAny_truthy_bool (wpAny_bind (wpAny_letGo (wpAny_pure ?_)))))
    cases hb : bt (j + 1) (argBest bt j) with
    | true =>
      simp only [if_true]
      refine wpAny_bind (wpAny_updateSeq e1 rfl (wpAny_bind (wpAny_letGo ?_)))
      rw [minD_name]
      refine wpAny_pure ⟨plainId_quiet F.plain_min_loop _, ih (j + 1) _ v _ (by omega) hlt (W.frame _ _ _ st' fun b hbf o e => (Heap.get?_update_other _ _ (fun h : S = b => hSf (by rw [h]; exact hbf))).trans e) (by simp only [argBest, hb, if_true]; exact pv) (Heap.get?_update_self _ e1 rfl) fun v' h2 tk2 pv' keep2 => ?_⟩
      exact hR v' h2 tk2 pv' fun b o hbw hbS e => keep2 b o hbw hbS ((Heap.get?_update_other _ _ (Ne.symm hbS)).trans (keep b o hbw e))
    | false =>
      simp only [Bool.false_eq_true, if_false]
      refine wpAny_bind (wpAny_letGo ?_)
      rw [minD_name]
      refine wpAny_pure ⟨plainId_quiet F.plain_min_loop _, ih (j + 1) _ vb c (by omega) hlt st' (by simp only [argBest, hb, Bool.false_eq_true, if_false]; exact pb) e1 fun v' h2 tk2 pv' keep2 => ?_⟩
      exact hR v' h2 tk2 pv' fun b o hbw hbS e => keep2 b o hbw hbS (keep b o hbw e)
theorem minD_first (d : Value) (W : Walks prog w A.in1 I fp wr n P St) (bt : Nat → Nat → Bool) (hcmp : CmpOf prog w A.in1 .Lt P bt) (S : Addr) (hSf : S ∉ fp) {s : Shared} {c : Nat} (st : St 0 s.heap) (e0 : s.heap.get? S = some { cls := .type "list", dict := none, data := .seq #[] c, slots := #[] })
    (h0 : n = 0 → ∀ h' tk, (∀ b o, b ∉ wr → b ≠ S → s.heap.get? b = some o → h'.get? b = some o) → R (.ok (.ret d)) { s with heap := h', toks := tk })
    (hR : 0 < n → ∀ v h' tk, P (argBest bt (n - 1)) v → (∀ b o, b ∉ wr → b ≠ S → s.heap.get? b = some o → h'.get? b = some o) → R (.ok (.ret v)) { s with heap := h', toks := tk }) :
    codeAny (model prog w) A (.builtin "min.loop" ⟨[.ref I, .none, .ref S], [(Str.ofString "default", d)]⟩) R s := by
  have nS : S ∉ wr := fun h => hSf (W.sub _ h)
  refine codeAny_builtin F.entry_min_loop ?_
  rw [Around.under_plainId F.plain_min_loop _]
  show wpAny _ A.in1 (seqItems? (.ref S) >>= _) _ _ s
  refine wpAny_bind (wpAny_seqItems e0 rfl ?_)
  show wpAny _ A.in1 (tryCatch (pyNext (.ref I)) _ >>= _) _ _ s
  by_cases hn : 0 < n
  · refine wpAny_bind (wpAny_tryCatch (W.item 0 s _ _ hn st fun v h' tk pv st' keep => ?_))
    have e1 := keep S _ nS e0
    show wpAny _ A.in1 (updateSeq S (fun _ => #[v, v]) >>= _) _ _ _
    refine wpAny_bind (wpAny_updateSeq e1 rfl ?_)
    rw [minD_name]
    refine wpAny_pure ⟨plainId_quiet F.plain_min_loop _, minD_loop d W bt hcmp S hSf _ 0 _ v _ rfl hn (W.frame _ _ _ st' fun b hbf o e => (Heap.get?_update_other _ _ (fun h : S = b => hSf (by rw [h]; exact hbf))).trans e) pv (Heap.get?_update_self _ e1 rfl) fun v' h2 tk2 pv' keep2 => ?_⟩
    exact hR hn v' h2 tk2 pv' fun b o hbw hbS e => keep2 b o hbw hbS ((Heap.get?_update_other _ _ (Ne.symm hbS)).trans (keep b o hbw e))
  · have hz : n = 0 := by omega
    refine wpAny_bind (wpAny_tryCatch (W.done s _ _ (hz ▸ st) fun h' tk keep => ?_))
    refine wpAny_bind (wpAny_rule (wpAny_pure ?_))
    exact h0 hz h' tk fun b o hbw _ e => keep b o hbw e
end
section
variable {prog : Program} {w : World} {A : Around} {E : Value → Shared → Prop} {s : Shared}
theorem call_minD {x d : Value} {Q : Value → Shared → Prop}
    (h : wpAny (model prog w) A.in1 (pyIter x) (fun it s₂ => ∃ I fp wr n P St bt, it = .ref I ∧ Walks prog w A.in1 I fp wr n P St ∧ St 0 s₂.heap ∧ (∀ b ∈ fp, b < s₂.heap.objs.size) ∧ CmpOf prog w A.in1 .Lt P bt ∧
      (n = 0 → ∀ h' tk, (∀ b o, b ∉ wr → s₂.heap.get? b = some o → h'.get? b = some o) → Q d { s₂ with heap := h', toks := tk }) ∧
      (0 < n → ∀ v h' tk, P (argBest bt (n - 1)) v → (∀ b o, b ∉ wr → s₂.heap.get? b = some o → h'.get? b = some o) → Q v { s₂ with heap := h', toks := tk })) E s) :
    wpAny (model prog w) A (call (.builtin "min") [x] [(Str.ofString "default", d)]) Q E s := by
  refine call_tree_kw F.kind_min F.plain_min F.entry_min (F.args_minD _ _) ?_
  show wpAny _ A.in1 (Builtin.Builtins.bindParams "min" ["key", "default"] 0 ⟨[], [(Str.ofString "default", d)]⟩ >>= _) _ _ s
  refine wpAny_bind (wpAny_of_eq (show Builtin.Builtins.bindParams "min" ["key", "default"] 0 ⟨[], [(Str.ofString "default", d)]⟩ = pure [none, some d] from rfl) ?_)
  refine wpAny_bind (wpAny_pure (wpAny_bind (wpAny_mono h (fun it s₂ h₂ => ?_) fun _ _ e => e)))
  obtain ⟨I, fp, wr, n, P, St, bt, rfl, W, hst, hfp, hcmp, hQ0, hQ⟩ := h₂
  refine wpAny_bind (wpAny_newObj_type ?_)
  have nS : s₂.heap.objs.size ∉ fp := fun hm => Nat.lt_irrefl _ (hfp _ hm)
  rw [minD_name]
  refine wpAny_pure ⟨plainId_quiet F.plain_min_loop _, minD_first d W bt hcmp s₂.heap.objs.size nS (W.frame _ _ _ hst fun b _ o e => Heap.get?_push_of_some _ e) (Heap.get?_push_size _ rfl) (fun hz h' tk keep => ?_) (fun hn v h' tk pv keep => ?_)⟩
  · exact hQ0 hz h' tk fun b o hbw e => keep b o hbw (Nat.ne_of_lt (Heap.lt_size e)) (Heap.get?_push_of_some _ e)
  · exact hQ hn v h' tk pv fun b o hbw e => keep b o hbw (Nat.ne_of_lt (Heap.lt_size e)) (Heap.get?_push_of_some _ e)
end
end PySem
namespace L2
open PySem PySem.Spec PyProof.Rows
section
variable {X : Cx}
/-- min(xs, default=d) of a list of ints -/
def rMinD (K : PySem.W.Frag) : List V → List V → Hp → VK → Prop := fun vs zs H Q => ∃ (a : Addr) (ns : List Int) (d : V), vs = [V.ref a] ∧ zs = [d] ∧ SqL K H a (ns.map V.int) ∧ (ns = [] → Q d H) ∧ ∀ m, m ∈ ns → (∀ y, y ∈ ns → m ≤ y) → Q (.int m) H
theorem cr_minD (hc : X.calm = true) : CallRK X (.builtin "min") ["default"] (rMinD X.K) := by
  intro pins s σ H vs zs us ws Q I r r2 h
  obtain ⟨a, ns, d, rfl, rfl, hs, q0, q⟩ := h
  obtain ⟨its, rv, hl, _⟩ := I.list hs
  rw [Vals.ref1 r]
  cases r2 with
  | @cons _ u _ _ rd rn =>
  cases rn
  have hi := rv.ints
  have hlen := hi.length
  have hat : ∀ (i : Nat) (v : Value), its.toArray[i]? = some v → ∃ t, v = .int (ns.getD i 0) t := fun i v hv => by
    have hv' : its[i]? = some v := by simpa using hv
    have hlt : i < its.length := (List.getElem?_eq_some_iff.mp hv').1
    obtain ⟨w, hw, rw'⟩ := rv.get (i := i) (x := .int (ns.getD i 0)) (by
      rw [List.getElem?_map, List.getD_eq_getElem?_getD, List.getElem?_eq_getElem (by omega : i < ns.length)]
      rfl)
    rw [hv'] at hw
    cases hw
    exact rw'
  show wpAny _ _ (call (.builtin "min") [.ref a] [(Str.ofString "default", u)]) _ _ _
  refine call_minD (iter_any hl.isList fun s₂ e2 st hne => ?_)
  subst e2
  refine ⟨_, _, _, _, _, _, _, rfl, Walks.list (A := X.A.in1) (I.ok.hd hc) _ a hne its.toArray, st, ?_, CmpOf.ints_lt (fun i => ns.getD i 0) hat, fun hz h' tk hk => ?_, fun hn v h' tk hP hk => ?_⟩
  · intro b hb
    have hsz := Heap.size_push s.heap { cls := .type "list_iterator", data := .fields #[.ref a, .int 0 0] }
    show b < (s.heap.push _).objs.size
    rw [hsz]
    rcases List.mem_cons.mp hb with e1 | hb
    · rw [e1]; exact Nat.lt_succ_self _
    · rw [List.mem_singleton.mp hb]
      obtain ⟨_, e, _⟩ := hl.isList
      exact Nat.lt_succ_of_lt (Heap.lt_size e)
  · refine ⟨d, H, I.kept fun b o eo => hk b o (fun hmem => ?_) (Heap.get?_push_of_some _ eo), rd, q0 ?_⟩
    · rw [List.mem_singleton] at hmem
      exact absurd (hmem ▸ Heap.lt_size eo) (Nat.lt_irrefl _)
    · rw [List.size_toArray] at hz
      cases ns with
      | nil => rfl
      | cons => simp at hlen; omega
  · obtain ⟨t, rfl⟩ := hat _ _ hP
    obtain ⟨h1, h2⟩ := argBest_lt (fun i => ns.getD i 0) (its.toArray.size - 1)
    rw [List.size_toArray] at hn h1 h2 ⊢
    refine ⟨.int _, H, I.kept fun b o eo => hk b o (fun hmem => ?_) (Heap.get?_push_of_some _ eo), ⟨t, rfl⟩, q _ ?_ fun y hy => ?_⟩
    · rw [List.mem_singleton] at hmem
      exact absurd (hmem ▸ Heap.lt_size eo) (Nat.lt_irrefl _)
    · have hlt : argBest (fun i j => decide (ns.getD i 0 < ns.getD j 0)) (its.length - 1) < ns.length := by omega
      rw [List.getD_eq_getElem?_getD, List.getElem?_eq_getElem hlt]
      exact List.getElem_mem hlt
    · obtain ⟨j, hj, rfl⟩ := List.getElem_of_mem hy
      have := h2 j (by omega)
      rw [List.getD_eq_getElem?_getD (i := j), List.getElem?_eq_getElem hj] at this
      exact this
end
end L2

namespace PySem
open Sem
/-- the text of a list, whatever is under way -/
theorem list_repr_any {M : Model} {A : Around} {E : Value → Shared → Prop} {s : Shared} {Q : Fin → Shared → Prop} {a : Addr} {o : Obj} {x : Value} {l : List Value} {n b : Nat} (hget : s.heap.get? a = some o) (hd : o.data = .seq (x :: l).toArray n)
    (h1 : ∀ u tk, Q (.done (.ret (.str "[...]" u))) { s with toks := tk }) (h2 : wpAny M A (do again (.builtin "list.__repr__.loop" ⟨[.ref a, rawInt 0, ← newList [], rawInt b], []⟩)) Q E s) : wpAny M A (Builtin.listReprAt b ⟨[.ref a], []⟩) Q E s := by
  intro Γ p hΓ
  have k2 := h2 Γ p hΓ
  unfold Builtin.listReprAt
  simp [slotArgs, Builtin.List.listItems, seqItems?, wp_load_of (h := hget), hd, stack]
  show wp M Γ (if (Γ.below.any _) = true then _ else _) _ _ p s
  split
  · simp [rule, retStr, ret]
    exact h1 _ _
  · exact k2
section
variable {prog : Program} {w : World} {A : Around} {E : Value → Shared → Prop} {s : Shared}
theorem fmt_list_repr {a : Addr} {o : Obj} {l : List Value} {n : Nat} {ts : List Str} {Q : Value → Shared → Prop} (ha : s.heap.get? a = some o) (hc : o.cls = .type "list") (hd : o.data = .seq l.toArray n) (hlen : ts.length = l.toArray.size)
    (hT : ∀ (i : Nat) (y : Value), l.toArray[i]? = some y → ∃ t, ts[i]? = some t ∧ ReprIs prog w y t) (hsz : (listText ts).length ≤ sizeLine)
    (h : ∀ (m : Str) (h' : Heap) (u tk : Tok), m.length ≤ (listText ts).length + 5 → (∀ b o, s.heap.get? b = some o → h'.get? b = some o) → Q (.str m u) { s with heap := h', toks := tk }) : wpAny (model prog w) A (call (.builtin "list.__repr__") [.ref a]) Q E s := by
  have hTy : s.TypeIs (.ref a) "list" := ⟨o, ha, hc⟩
  cases l with
  | nil => exact call_list_repr_empty hTy ha hd (h "[]" s.heap _ _ (Nat.le_trans (by decide +kernel : ("[]" : Str).length ≤ 5) (Nat.le_add_left _ _)) fun _ _ e => e)
  | cons x l =>
    refine wpAny_call (codeAny_call_builtin F.slot_list_repr.plain F.entry_list_repr (F.slot_list_repr.check _ _ _ _ _ _ _ _ hTy (F.args_list_repr_1 _) ?_))
    refine list_repr_any (b := 0) ha hd (fun u tk => ?_) ?_
    · exact h "[...]" s.heap u tk (Nat.le_trans (by decide +kernel : ("[...]" : Str).length ≤ 5) (Nat.le_add_left _ _)) fun _ _ e => e
    · refine wpAny_bind (m := newList []) (wpAny_newObj_type ?_)
      refine wpAny_pure ⟨F.quiet_list_repr_loop _, ?_⟩
      refine codeAny_list_repr_start (P := s.heap.objs.size) (Nat.ne_of_lt (Heap.lt_size ha)) hlen hT (Heap.get?_push_of_some _ ha) hd (Heap.get?_push_size _ rfl) (fun h' u tk hk => ?_) (by omega)
      exact h (listText ts) h' u tk (Nat.le_add_right _ _) fun b o e => hk b o (Nat.ne_of_lt (Heap.lt_size e)) (Heap.get?_push_of_some _ e)
theorem fmt_list {a : Addr} {o : Obj} {l : List Value} {n : Nat} {ts : List Str} {Q : Value → Shared → Prop} (hu : A.units + 2 < cLine) (ha : s.heap.get? a = some o) (hc : o.cls = .type "list") (hd : o.data = .seq l.toArray n) (hlen : ts.length = l.toArray.size)
    (hT : ∀ (i : Nat) (y : Value), l.toArray[i]? = some y → ∃ t, ts[i]? = some t ∧ ReprIs prog w y t) (hsz : (listText ts).length ≤ sizeLine)
    (h : ∀ (m : Str) (h' : Heap) (u tk : Tok), m.length ≤ (listText ts).length + 5 → (∀ b o, s.heap.get? b = some o → h'.get? b = some o) → Q (.str m u) { s with heap := h', toks := tk }) : wpAny (model prog w) A (formatField (.ref a) Str.empty) Q E s :=
  wpAny_formatField_slot (fun _ _ => nofun) hu ⟨o, ha, hc⟩ F.slot_list_format F.slot_list_str F.slot_list_repr.toG
    (fmt_list_repr (s := { s with toks := s.toks + 1 }) ha hc hd hlen hT hsz fun m h' u tk hm hk => ⟨m, u, rfl, h m h' u tk hm hk⟩)
end
end PySem

namespace L2
open PySem PySem.Spec PyProof.Rows
theorem text_le : ∀ (ts : List Str) (k : Nat) (acc : Str), (textFrom k acc ts).length ≤ acc.length + piled ts
  | [], k, acc => Nat.le_add_right _ _
  | t :: ts, k, acc => by
    have ih := text_le ts (k + 1) (acc ++ ((if k > 0 then ", " else "" : String) : Str) ++ t)
    have e : (((if k > 0 then ", " else "" : String)) : Str).length ≤ 2 := by split <;> decide +kernel
    rw [strLen_append, strLen_append] at ih
    rw [piled_cons]
    show (textFrom (k + 1) (acc ++ ((if k > 0 then ", " else "" : String) : Str) ++ t) ts).length ≤ _
    omega
theorem digit_len {i : Int} (h0 : 0 ≤ i) (h1 : i < 10) : (Str.ofString (toString i)).length = 1 := by
  have : i = 0 ∨ i = 1 ∨ i = 2 ∨ i = 3 ∨ i = 4 ∨ i = 5 ∨ i = 6 ∨ i = 7 ∨ i = 8 ∨ i = 9 := by omega
  rcases this with e | e | e | e | e | e | e | e | e | e <;> subst e <;> decide +kernel
section
variable {X : Cx}
/-- {xs}, xs a list of digits: some text -/
def tFmtL (K : PySem.W.Frag) (te : TE) : TE := fun σ H Q => te σ H fun x H1 => ∃ (a : Addr) (ns : List Int), x = .ref a ∧ SqL K H1 a (ns.map V.int) ∧ ns.length ≤ 100 ∧ (∀ n ∈ ns, 0 ≤ n ∧ n < 10) ∧ ∀ m : Str, m.length ≤ 1000 → Q (.str m) H1
theorem pe_fmtLu {e : Expr} {te : TE} {pos : Pos} (hu : X.A.units + 2 < cLine) (he : PE X e te) : PE X (.FormattedValue e (-1) none pos) (tFmtL X.K te) := by
  refine ⟨fun pins s σ H Q I h => ?_⟩
  refine wpAny_FormattedValue_plain (thn (he.run pins s σ H _ I h) fun v s1 hv => ?_)
  obtain ⟨x, H1, I1, r1, a, ns, rfl, hs, hl, hn, q⟩ := hv
  cases r1
  obtain ⟨its, rv, pl, _⟩ := I1.list hs
  obtain ⟨o, ho, hcl, n, hd⟩ := pl.isList
  have hlen := rv.length
  rw [List.length_map] at hlen
  have hpile : ∀ l : List Int, (∀ n ∈ l, 0 ≤ n ∧ n < 10) → piled (l.map fun i => Str.ofString (toString i)) = 3 * l.length := by
    intro l
    induction l with
    | nil => intro _; rfl
    | cons i l ih =>
      intro hl
      have hi := hl i List.mem_cons_self
      rw [List.map_cons, piled_cons, ih (fun n m => hl n (List.mem_cons_of_mem _ m)), digit_len hi.1 hi.2, List.length_cons]
      omega
  have hp := hpile ns hn
  have hz : (listText (ns.map fun i => Str.ofString (toString i))).length ≤ 3 * ns.length + 2 := by
    unfold listText
    have h1 := text_le (ns.map fun i => Str.ofString (toString i)) 0 "["
    have e1 : ((("[" : String) : Str)).length = 1 := rfl
    have e2 : ((("]" : String) : Str)).length = 1 := rfl
    rw [strLen_append, e2]
    rw [e1] at h1
    omega
  refine fmt_list (ts := ns.map fun i => Str.ofString (toString i)) (by omega) ho hcl hd (by rw [List.length_map, List.size_toArray]; exact hlen) (fun i y hy => ?_) (by rw [sizeLine_eq]; omega) fun m h' u tk hm hk => ⟨.str m, H1, I1.kept hk, ⟨u, rfl⟩, q m (by omega)⟩
  have hy' : its[i]? = some y := by simpa using hy
  have hlt : i < ns.length := by have := (List.getElem?_eq_some_iff.mp hy').1; omega
  obtain ⟨z, hz2, rz⟩ := rv.get (i := i) (x := .int ns[i]) (by rw [List.getElem?_map, List.getElem?_eq_getElem hlt]; rfl)
  rw [hy'] at hz2
  cases hz2
  obtain ⟨t, rfl⟩ := rz
  have hb := hn _ (List.getElem_mem hlt)
  refine ⟨_, by rw [List.getElem?_map, List.getElem?_eq_getElem hlt]; rfl, ReprIs.int t ?_⟩
  have : ns[i].natAbs < 10 := by omega
  exact Nat.lt_of_le_of_lt (Nat.log2_le_self _) (by omega)
theorem pe_fmtL {e : Expr} {te : TE} {pos : Pos} {k : Nat} (hr : Room k X.A) (he : PE X e te) : PE X (.FormattedValue e (-1) none pos) (tFmtL X.K te) := pe_fmtLu (by have := hr.units; omega) he
/-- C.m(e, ..), C the class at C (own), m a def of it -/
def tClsF (C : Addr) (sp : Sp) (E : XK) (ta : TE) (t : TA) : TE := fun σ H Q => ta σ H fun x H1 => x = .ref C ∧ t σ H1 fun vs H2 => sp vs H2 Q E
theorem pe_clsf {CX : CXT} {k : Nat} {C f : Addr} {fd : FuncData} {ps : List Str} {mc : Value} {sp : Sp} {E : XK} {o e : Expr} {es : List Expr} {m : Str} {pos apos : Pos} {ta : TE} {t : TA} {pl : Sem Bool} (he : PE X o ta) (r : ClX.CRead X.K C mc) (at_ : PySem.W.findCls X.K (.ref C) mc m = some (.val (.ref f)))
    (F : FnOk X.prog X.w X.K X.mg X.base CX k f fd ps sp) (hr : Room k X.A) (hk : PySem.W.keepIn X.K (.ref f) = true) (hb : Binds X.K fd ps []) (hx : Passes CX X E) (ha : PA X (e :: es) t)
    (hst : starEach (e :: es) X.env = (false, eval e X.env) :: starEach es X.env := by rfl) (hpl : (backTo pos (starEach es X.env)).any (·.1) = false := by rfl)
    (ht : eval (.Call (.Attribute o m apos) (e :: es) [] pos) X.env = (do
      let ov ← eval o X.env
      standAt apos.atName
      let (f, first) ← holding [ov] (getMethod ov m pl)
      callWith pos f first (backTo pos (starEach (e :: es) X.env)) (backToKw pos (keywordEach [] X.env))) := by rfl) :
    PE X (.Call (.Attribute o m apos) (e :: es) [] pos) (tClsF C sp E ta t) := by
  refine ⟨fun pins s σ H Q I h => ?_⟩
  refine PySem.W.methodCall_KW (pl := pl) (thn (he.run pins s σ H _ I h) fun u s1 ⟨x, H1, I1, rx, ex, q⟩ => ?_) ht
  subst ex
  obtain rfl : u = Value.ref C := rx
  refine PySem.W.method_cls I1.kIn r.ga (ClX.getcval_ok (v := .ref f) I1 r ⟨at_, rfl⟩ fun s2 I2 => ?_)
  refine PySem.W.callWith_K (h₀ := X.base) I2.ok.mod.kin hk (thn (ha.run pos pins s2 σ H1 _ I2 q) fun us s3 ⟨vs, H2, I3, rv, q2⟩ => ⟨I3.kIn, ?_⟩) hst hpl
  refine run_fn (dvs := []) F hr hb .nil hx I3 rv ?_
  rw [List.append_nil]
  exact q2
end
end L2

/-! several except clauses, with and without a name -/
namespace L2
open PySem PySem.Spec PyProof.Rows
/-- one clause: the class that it names, the slot of its name (if any), its suite's reading -/
structure Cl where
  c : Value
  i : Option Nat
  ts : Addr → Value → Option Addr → TS
def slotN (i : Option Nat) (v : Option V) (σ : St) : St := match i with
  | none => σ
  | some i => σ.set i v
def endsN (i : Option Nat) (D : Ends) : Ends := match i with
  | none => D
  | some i => { nx := fun σ H => D.nx (σ.set i none) H, rt := D.rt, bk := fun σ H => D.bk (σ.set i none) H, ct := fun σ H => D.ct (σ.set i none) H }
/-- what the clauses wish of an exception of the body -/
def wMix (K : PySem.W.Frag) (Wout : WX) (D : Ends) : List Cl → WX
  | [] => Wout
  | x :: r => fun cls d σ H => ∃ b, PySem.W.exmOne K cls x.c = some b ∧ (b = true → ∀ a, H a = none → x.ts a cls d (endsN x.i D) (slotN x.i (some (.ref a)) σ) H) ∧ (b = false → wMix K Wout D r cls d σ H)
inductive MixOk (X : Cx) : List ExceptHandler → List Cl → Prop
  | nil : MixOk X [] []
  | bare {x : Str} {c : Value} {ts : Addr → Value → Option Addr → TS} {b₀ : Stmt} {suite : List Stmt} {np pos' : Pos} {hds : List ExceptHandler} {l : List Cl} (hc : Names X x c)
      (hsu : ∀ (a : Addr) (oe : Obj) (cls : Value) (d : Option Addr) (pn : List (Addr × Obj)), Zc cls d oe → (∃ vs, oe.data = .fields vs) → PSs (X.suite a ((a, oe) :: pn)) (b₀ :: suite) (ts a cls d)) (r : MixOk X hds l) :
      MixOk X (.ExceptHandler (some (.Name x np)) none (b₀ :: suite) pos' :: hds) (⟨c, none, ts⟩ :: l)
  | as {x n : Str} {i : Nat} {c : Value} {ts : Addr → Value → Option Addr → TS} {b₀ : Stmt} {suite : List Stmt} {np pos' : Pos} {hds : List ExceptHandler} {l : List Cl} (hN : X.N.Nodup) (hi : X.N[i]? = some n) (hln : X.env.kindOf n = some .local) (hc : Names X x c)
      (hsu : ∀ (a : Addr) (oe : Obj) (cls : Value) (d : Option Addr) (pn : List (Addr × Obj)), Zc cls d oe → (∃ vs, oe.data = .fields vs) → PSs (X.suite a ((a, oe) :: pn)) (b₀ :: suite) (ts a cls d)) (r : MixOk X hds l) :
      MixOk X (.ExceptHandler (some (.Name x np)) (some n) (b₀ :: suite) pos' :: hds) (⟨c, some i, ts⟩ :: l)
section
variable {X : Cx} {body : List Stmt} {h₀ : ExceptHandler} {hds : List ExceptHandler} {l : List Cl} {pos : Pos} {tb : WX → TS} {Wout : WX}
theorem ps_try_mix (hs : X.stack = X.env :: X.outer) (hf : X.env.frame = some X.env.locals) (tk : Takes X Wout)
    (hb : ∀ (W : WX) (pn : List (Addr × Obj)) (xe : Value → Shared → Prop), Takes (X.tr pn xe) W → PassesOwn (model X.prog X.w) X.A X.env xe → PSs (X.tr pn xe) body (tb W))
    (hh : MixOk X (h₀ :: hds) l) : PS X (.Try body (h₀ :: hds) [] [] pos) (fun D σ H => tb (wMix X.K Wout D l) D σ H) := by
  refine ⟨fun pins s σ H D I h => ?_⟩
  have ok := I.ok
  have hfr : X.A.frames = some (X.env :: X.outer) := by rw [ok.frames, hs]
  refine wpAny_Try_except (wpAny_mono ((hb (wMix X.K Wout D l) (X.pn ++ pins) (fun e s₁ => wpAny (model X.prog X.w) X.A (noteFrame e X.env) (fun _ s₂ => wpAny (model X.prog X.w) X.A (setFlight e none) (fun _ s₃ => wpAny (model X.prog X.w) X.A (handleBy e X.env (h₀ :: hds)) (SP X pins D) X.xe s₃) X.xe s₂) X.xe s₁) (fun u s' xx => ?_) PassesOwn.looking).run [] s σ H D (I.toTry _) h) (fun f s1 hsp => ?_) (fun e s1 he => he))
  · obtain ⟨a, B, sI, pins', σ', H', cls, d, rfl, J', nb, up, sky, na, os, ag, w⟩ := xx
    have J : Inv X pins σ' H' sI := J'.ofTry ok
    have sky2 : Sky B (X.env :: X.outer) a (Zc cls d) X.env.locals s'.heap := by rw [← hs]; exact sky
    show wpAny (model X.prog X.w) X.A (noteFrame (.ref a) X.env) _ _ _
    refine Sky.land Zc.steady hfr hf sky2 fun h3 fl3 up3 => ?_
    have J3 : Inv X pins σ' H' { s' with heap := h3 } := J.landed nb fl3.1 (up.trans up3) os ag
    obtain ⟨oe3, vs3, he3, hz3, hd3⟩ := fl3.there
    have nfr : a ∉ frs (X.env :: X.outer) := fun hm => by
      obtain ⟨_, o', e', hnf⟩ := fl3.2.2.1.mem hm
      rw [he3] at e'; cases e'
      exact hnf _ hd3
    have nL : a ≠ X.env.locals := fun z => nfr (List.mem_filterMap.mpr ⟨X.env, List.mem_cons_self, by rw [hf, z]⟩)
    have nF : a ∉ X.fs := fun hm => by
      obtain ⟨e, he, q⟩ := List.mem_filterMap.mp hm
      exact nfr (List.mem_filterMap.mpr ⟨e, List.mem_cons_of_mem _ he, q⟩)
    have S3 := J3.suite he3 hd3 na nL nF
    have LT : PySem.W.Looks (model X.prog X.w) h3 (typeOf (.ref a)) cls := fun A Q E s k q => wpAny_typeOf_ref (k _ _ he3) (by rw [hz3.1]; exact q)
    have test : ∀ {x : Str} {c : Value} {np : Pos} {Q : Value → Shared → Prop} {E : Value → Shared → Prop}, Names X x c → Q c { s' with heap := h3 } → wpAny (model X.prog X.w) (X.A.mark (some (.ref a))) (eval (.Name x np) X.env) Q E { s' with heap := h3 } := fun {x c np Q E} hc q => by
      obtain ⟨hg, hdbg, hm | ⟨hm, hv, hnn⟩⟩ := hc
      · exact ld_glob (X := X.suite a ((a, oe3) :: (X.pn ++ pins))) S3 hg hm q hdbg
      · exact ld_blt (X := X.suite a ((a, oe3) :: (X.pn ++ pins))) S3 hg hm hv q hnn hdbg
    have go : ∀ {hds' : List ExceptHandler} {l' : List Cl}, MixOk X hds' l' → wMix X.K Wout D l' cls d σ' H' → wpAny (model X.prog X.w) X.A (handleBy (.ref a) X.env hds') (SP X pins D) X.xe { s' with heap := h3 } := by
      intro hds' l' hk
      induction hk with
      | nil =>
        intro w
        refine wpAny_handleBy_nil ?_
        obtain ⟨k1, k2, k3, oe, vs, T, oT, ts', he, hz, hd, h1, hr⟩ := id fl3
        unfold PySem.passOn
        refine wpAny_bind (wpAny_field he hd h1 ?_)
        rw [if_neg (show ¬ ((Value.ref T == Value.none) = true) from by simp)]
        have fin : wpAny (model X.prog X.w) X.A (setFlight (.ref a) X.env.frame) (fun _ s4 => wpAny (model X.prog X.w) X.A (throw (.ref a) : Sem Flow) (SP X pins D) X.xe s4) X.xe { s' with heap := h3 } := by
          rw [hf]
          refine HandSPX.setFlight_upZ fl3 fun h4 hh4 up4 => wpAny_throw (tk _ _ ?_)
          exact ⟨a, B, sI, pins, σ', H', cls, d, rfl, J, nb, (up.trans up3).trans up4, .inr (.inr (by rw [hs]; exact hh4)), na, os, ag, w⟩
        first
          | exact wpAny_bind (wpAny_pure (wpAny_bind fin))
          | exact wpAny_bind fin
      | @bare x c ts b₀ suite np pos' hds2 l2 hc hsu r ih =>
        intro w
        obtain ⟨b, hb1, hyes, hno⟩ := w
        refine wpAny_handleBy_cons (codeAny_handlers_test ?_) (by intro q; cases q)
        refine test hc ((PySem.W.exm_one (M := model X.prog X.w) (J3.kIn) LT hb1).here ?_)
        cases b with
        | true =>
          refine codeAny_handlers_suite (HandSPX.lands_againZ fl3 fun h4 fl4 up4 => ?_)
          have J4 : Inv X pins σ' H' { s' with heap := h4 } := J.landed nb fl4.1 ((up.trans up3).trans up4) os ag
          obtain ⟨oe4, vs4, he4, hz4, hd4⟩ := fl4.there
          refine wpAny_mono ((hsu a oe4 cls d (X.pn ++ pins) hz4 ⟨_, hd4⟩).run [] _ _ H' _ (J4.suite he4 hd4 na nL nF) (hyes rfl a na)) (fun f s6 hsp => ?_) (fun _ _ z => False.elim z)
          cases f with
          | next => obtain ⟨σ6, H6, S6, q6⟩ := hsp; exact ⟨_, _, S6.unsuite ok, q6⟩
          | brk => obtain ⟨σ6, H6, S6, q6⟩ := hsp; exact ⟨_, _, S6.unsuite ok, q6⟩
          | cont => obtain ⟨σ6, H6, S6, q6⟩ := hsp; exact ⟨_, _, S6.unsuite ok, q6⟩
          | ret u => obtain ⟨v6, σ6, H6, S6, r6, q6⟩ := hsp; exact ⟨_, _, _, S6.unsuite ok, r6, q6⟩
        | false =>
          show wpAny _ X.A (handleBy (.ref a) X.env hds2) _ _ _
          exact ih (hno rfl)
      | @as x n i c ts b₀ suite np pos' hds2 l2 hN hi hln hc hsu r ih =>
        intro w
        obtain ⟨b, hb1, hyes, hno⟩ := w
        have hloc : Loc X.env.scope n := .inl hln
        refine wpAny_handleBy_cons (codeAny_handlers_test ?_) (by intro q; cases q)
        refine test hc ((PySem.W.exm_one (M := model X.prog X.w) (J3.kIn) LT hb1).here ?_)
        cases b with
        | true =>
          refine codeAny_handlers_suite_as (HandSPX.lands_againZ fl3 fun h4 fl4 up4 => ?_)
          have J4 : Inv X pins σ' H' { s' with heap := h4 } := J.landed nb fl4.1 ((up.trans up3).trans up4) os ag
          obtain ⟨oe4, vs4, he4, hz4, hd4⟩ := fl4.there
          have S4 := J4.suite he4 hd4 na nL nF
          refine store_ok (X := X.suite a ((a, oe4) :: (X.pn ++ pins))) (v := .ref a) S4 hN hi hloc rfl (fun s5 S5 => ?_) (.inr hln)
          refine wpAny_mono ((hsu a oe4 cls d (X.pn ++ pins) hz4 ⟨_, hd4⟩).run [] s5 _ H' _ S5 (hyes rfl a na)) (fun f s6 hsp => ?_) (fun _ _ z => False.elim z)
          have end_ : ∀ {σ6 : St} {H6 : Hp} {Q : Shared → Prop}, Inv (X.suite a ((a, oe4) :: (X.pn ++ pins))) [] σ6 H6 s6 → (∀ s7, Inv X pins (σ6.set i none) H6 s7 → Q s7) → wpAny (model X.prog X.w) X.A (do bindName X.env n .none; unbindBehindTheSuite X.env n pos') (fun _ s7 => Q s7) X.xe s6 := fun {σ6 H6 Q} S6 hq => gone_ok (S6.unsuite ok) hN hi hln hq
          cases f with
          | next => obtain ⟨σ6, H6, S6, q6⟩ := hsp; exact end_ S6 fun s7 J7 => ⟨_, _, J7, q6⟩
          | brk => obtain ⟨σ6, H6, S6, q6⟩ := hsp; exact end_ S6 fun s7 J7 => ⟨_, _, J7, q6⟩
          | cont => obtain ⟨σ6, H6, S6, q6⟩ := hsp; exact end_ S6 fun s7 J7 => ⟨_, _, J7, q6⟩
          | ret u => obtain ⟨v6, σ6, H6, S6, r6, q6⟩ := hsp; exact end_ S6 fun s7 J7 => ⟨_, _, _, J7, r6, q6⟩
        | false =>
          show wpAny _ X.A (handleBy (.ref a) X.env hds2) _ _ _
          exact ih (hno rfl)
    exact go hh w
  · cases f with
    | next => obtain ⟨σ', H', J', q⟩ := hsp; exact wpAny_execs_nil ⟨σ', H', J'.ofTry ok, q⟩
    | brk => obtain ⟨σ', H', J', q⟩ := hsp; exact ⟨σ', H', J'.ofTry ok, q⟩
    | cont => obtain ⟨σ', H', J', q⟩ := hsp; exact ⟨σ', H', J'.ofTry ok, q⟩
    | ret u => obtain ⟨v, σ', H', J', r, q⟩ := hsp; exact ⟨v, σ', H', J'.ofTry ok, r, q⟩
end
end L2

namespace K
open PySem PySem.Spec PyProof.Rows L2
/-- whether an error of the class at S is what «except C» names -/
theorem exm_pair {K : PySem.W.Frag} {S C : Addr} {b : Bool} (h1 : PySem.W.subIn K (.ref C) (.type "BaseException") = some true) (h2 : PySem.W.isClsIn K C = true) (h3 : PySem.W.typeIn K (.ref C) = some (.type "type")) (h4 : PySem.W.subIn K (.ref S) (.ref C) = some b) : PySem.W.exmOne K (.ref S) (.ref C) = some b := by
  have e1 : (PySem.W.subIn K (.ref C) (.type "BaseException") == some true) = true := by rw [h1] <;> rfl
  have e2 : ((PySem.W.clsIn K C).isSome && PySem.W.typeIn K (.ref C) == some (.type "type")) = true := by
    have h2' : (PySem.W.clsIn K C).isSome = true := h2
    rw [h2', h3] <;> rfl
  show (if (PySem.W.subIn K (.ref C) (.type "BaseException") == some true) = true then (if ((PySem.W.clsIn K C).isSome && PySem.W.typeIn K (.ref C) == some (.type "type")) = true then PySem.W.subIn K (.ref S) (.ref C) else none) else none) = some b
  rw [if_pos e1, if_pos e2]
  exact h4
/-- what the top has written of SlipError and its __init__ -/
structure SlipT (K : PySem.W.Frag) (mg : Str → Option Value) (CS fS : Addr) : Prop where
  g : mg "SlipError" = some (.ref CS)
  r : ClX.CRead K CS (.type "type")
  at_ : PySem.W.findCls K (.ref CS) (.type "type") "__init__" = some (.val (.ref fS))
  kp : PySem.W.keepIn K (.ref fS) = true
  vV : PySem.W.findCls K (.type "ValueError") (.type "type") "__init__" = some (.val (.builtin "ValueError.__init__"))
  mV : mg "ValueError" = none
/-- .. of a refusal's class x at C, its __init__ at fI -/
structure ExcT (K : PySem.W.Frag) (mg : Str → Option Value) (x : Str) (C fI : Addr) : Prop where
  g : mg x = some (.ref C)
  oex : OexC K C
  xf : XfC K C
  iC : PySem.W.findIn K (.ref C) "__init__" = some (some (.ref fI))
  tI : PySem.W.typeIn K (.ref fI) = some (.type "function")
  word : PySem.W.findIn K (.ref C) "word" = some none
def spSlip (K : PySem.W.Frag) : Sp := fun vs H Q _ => ∃ (a C : Addr) (w y : Str), vs = [.ref a, .str w, .str y] ∧ OexC K C ∧ PySem.W.findIn K (.ref C) "word" = some none ∧ H a = some (exo a C none) ∧
  ∀ dx, H dx = none → dx ≠ a → Q .non (upd (upd H dx (exd dx [("word", .str w)])) a (exo a C (some dx)))
/-- C(v): the exception at a gets its fields, newest first, in a new dict; all else stands -/
def spIn1 (K : PySem.W.Frag) (f wd : Str) (ask : Hp → V → Prop) (got : Hp → Hp → V → V → Prop) : Sp := fun vs H Q _ => ∃ (a C : Addr) (v : V), vs = [.ref a, v] ∧ ask H v ∧ OexC K C ∧ PySem.W.findIn K (.ref C) "word" = some none ∧ PySem.W.findIn K (.ref C) f = some none ∧ H a = some (exo a C none) ∧
  ∀ (dx : Addr) (v' : V) (H' : Hp), H dx = none → dx ≠ a → (∀ b o, H b = some o → b ≠ a → H' b = some o) → H' a = some (exo a C (some dx)) → H' dx = some (exd dx [(f, v'), ("word", .str wd)]) → got H H' v v' → Q .non H'
def askInt : Hp → V → Prop := fun _ v => ∃ i : Int, v = .int i ∧ i.natAbs.log2 < 1920
def gotSame : Hp → Hp → V → V → Prop := fun _ _ v v' => v' = v
/-- a list of digits -/
def askLot (K : PySem.W.Frag) : Hp → V → Prop := fun H v => ∃ (l : Addr) (ns : List Int), v = .ref l ∧ H l = some (.lst (ns.map V.int)) ∧ ns.length ≤ 100 ∧ ∀ n ∈ ns, 0 ≤ n ∧ n < 10
def gotLot : Hp → Hp → V → V → Prop := fun H0 H v v' => ∃ (l l' : Addr) (xs : List V), v = .ref l ∧ v' = .ref l' ∧ H l = some (.lst xs) ∧ H l' = some (.lst xs) ∧ l ≠ l' ∧ H0 l' = none
theorem ext_ne_lst {H : Hp} {a b : Addr} {C : Addr} {d : Option Addr} {xs : List V} (h : H a = some (exo a C d)) (h' : H b = some (.lst xs)) : b ≠ a := fun e => by
  subst e
  rw [h] at h'
  cases h'
section
variable {P : Program} {w : World} {K : PySem.W.Frag} {mg : Str → Option Value} {base : Heap}
theorem join2_le {c m : Str} (hc : (Str.empty ++ c).length ≤ 1000) (hm : m.length ≤ 2000) : ((Str.empty ++ c) ++ m).length ≤ sizeLine := by
  rw [strLen_append, sizeLine_eq]
  omega
theorem join3_le {c m e : Str} (hc : (Str.empty ++ c).length ≤ 1000) (hm : m.length ≤ 2000) (he : e.length ≤ 1000) : (((Str.empty ++ c) ++ m) ++ e).length ≤ sizeLine := by
  rw [strLen_append, strLen_append, sizeLine_eq]
  omega
/-- what a raise of such a refusal leaves -/
theorem raised_same {H H2 : Hp} {a d : Addr} {fs : List (Str × V)} (ha : H a = none) (k : ∀ b o, H b = some o → b ≠ a → H2 b = some o) (hd : H d = none) : Same H (upd (del H2 a) d (.xd fs)) := fun b o e => by
  have hb : b ≠ a := ne_of_none e ha
  rw [upd_ne (ne_of_none e hd), del_ne hb]
  exact k b o e hb
end
end K

namespace K
open PySem PySem.Spec PyProof.Rows L2
open Sw (T3 Dist at? relax roundOf rounds IsNext Cand IsFar nbr candL WayTo lotOf)
/-- a def that may raise, as it can be called -/
structure CalX (P : Program) (w : World) (K : PySem.W.Frag) (mg : Str → Option Value) (base : Heap) (k : Nat) (x : Str) (f : Addr) (fd : FuncData) (ps : List Str) (sp : Sp) : Prop where
  ok : FnOk P w K mg base (L2.CX P w) k f fd ps sp
  g : mg x = some (.ref f)
  kp : PySem.W.keepIn K (.ref f) = true
  b : Binds K fd ps []
/-- a refusal's class with the promise of its __init__ -/
structure ExcC (P : Program) (w : World) (K : PySem.W.Frag) (mg : Str → Option Value) (base : Heap) (k : Nat) (x : Str) (C fI : Addr) (fd : FuncData) (ps : List Str) (sp : Sp) : Prop where
  t : ExcT K mg x C fI
  ok : FnOk P w K mg base CX0 k fI fd ps sp
  b : Binds K fd ps []
/-- NoHouse(h), as it is in the air: its dict, new; all else stands -/
def HouseX (CH : Addr) (h : Int) (H : Hp) (E : XK) : Prop := ∀ (d : Addr) (H' : Hp), H d = none → Same H H' → H' d = some (.xd [("house", .int h), ("word", .str "nohouse")]) → E (.ref CH) (some d) H'
def LotX (CW : Addr) (wd : Str) (lot : List Nat) (H : Hp) (E : XK) : Prop := ∀ (d l : Addr) (H' : Hp), H d = none → H l = none → Same H H' → H' d = some (.xd [("lot", .ref l), ("word", .str wd)]) → H' l = some (.lst (lot.map fun h => V.int (h : Nat))) → E (.ref CW) (some d) H'
def spCheckX (CH : Addr) : Sp := fun vs H Q E => ∃ (n : Nat) (h : Int), vs = [.int (n : Nat), .int h] ∧ h.natAbs.log2 < 1920 ∧ (0 ≤ h ∧ h < n → Q .non H) ∧ (¬ (0 ≤ h ∧ h < n) → HouseX CH h H E)
def spReach : Sp := fun vs H Q _ => ∃ (n g : Nat) (t : Addr) (ts : List T3), vs = [.int (n : Nat), .ref t, .int (g : Nat)] ∧ g < n ∧ n ≤ 1000 ∧ TiesAt H t ts ∧ Fits n ts ∧ ∀ p H', H p = none → Same H H' → H' p = some (.lst ((lotOf n (farD n ts g)).map fun h => V.int (h : Nat))) → Q (.ref p) H'
/-- (price, way) -/
def PriceWay (H : Hp) (p : Addr) (c : Nat) (way : List Nat) : Prop := ∃ w : Addr, H p = some (.tup [.int (c : Nat), .ref w]) ∧ H w = some (.tup (way.map fun h => V.int (h : Nat)))
def spLeastX (CH CW : Addr) : Sp := fun vs H Q E => ∃ (n : Nat) (s g : Int) (t : Addr) (ts : List T3), vs = [.int (n : Nat), .ref t, .int s, .int g] ∧ n ≤ 9 ∧ s.natAbs.log2 < 1920 ∧ g.natAbs.log2 < 1920 ∧ TiesAt H t ts ∧ ts.length ≤ 400 ∧ Fits n ts ∧ (∀ e ∈ ts, 1 ≤ e.2.2 ∧ e.2.2 ≤ 9) ∧
  (¬ (0 ≤ s ∧ s < n) → HouseX CH s H E) ∧ (0 ≤ s ∧ s < n → ¬ (0 ≤ g ∧ g < n) → HouseX CH g H E) ∧
  (∀ s' g' : Nat, s = s' → g = g' → s' < n → g' < n → at? (farD n ts g') s' = none → LotX CW "noway" (lotOf n (farD n ts s')) H E) ∧
  (∀ (s' g' c : Nat) (way : List Nat), s = s' → g = g' → s' < n → g' < n → at? (farD n ts g') s' = some c → WayTo (both ts) (farD n ts g') g' s' way → way.length ≤ 100 → ∀ p H', H p = none → Same H H' → PriceWay H' p c way → Q (.ref p) H')
end K

/-! raising out of a named except suite; defs whose exceptions have no context; defs called while an exception is handled -/
namespace L2H
open PySem PySem.Spec PyProof.Rows L2 HotX
/-- the context of an except suite that may raise, its wish xe -/
abbrev suiteA (X : Cx) (a : Addr) (pn : List (Addr × Obj)) (xe : Value → Shared → Prop) : Cx := { X with A := X.A.mark (some (.ref a)), calm := false, pn := pn, xe := xe }
theorem tracedZ_sameBut {h h' base : Heap} {e L : Addr} {Z : Obj → Prop} {fl : Value} {m : Str → Option Value} (x : HandSPX.TracedZ h base e Z fl) (hn : h.Ns L m) (hs : Heap.SameBut L h h') : HandSPX.TracedZ h' base e Z fl := by
  obtain ⟨oe, vs, T, oT, ts, he, hc, hd, h1, hnT, hTe, hT, hdT, h3⟩ := x
  obtain ⟨oL, es, ep, hoL, hdL, _⟩ := hn
  have neE : e ≠ L := fun q => by
    rw [q, hoL] at he
    have z := Option.some.inj he
    rw [← z, hdL] at hd
    cases hd
  have neT : T ≠ L := fun q => by
    rw [q, hoL] at hT
    have z := Option.some.inj hT
    rw [← z, hdL] at hdT
    cases hdT
  exact ⟨oe, vs, T, oT, ts, (hs.2 e neE).trans he, hc, hd, h1, hnT, hTe, (hs.2 T neT).trans hT, hdT, h3⟩
section
variable {X : Cx} {pins : List (Addr × Obj)} {σ : L2.St} {H : Hp} {s : Shared} {i : Nat} {n : Str}
/-- the name's slot out of hand: any state that differs at the def's own names only -/
theorem inv_gone {h' : Heap} {v : Option Value} {m : Str → Option Value} {t' : Nat} (I : Inv X pins σ H s) (hN : X.N.Nodup) (hi : X.N[i]? = some n) (hn0 : s.heap.Ns X.env.locals m)
    (hn' : h'.Ns X.env.locals (fun x => if x = n then v else m x)) (hs : Heap.SameBut X.env.locals s.heap h') : Inv X pins (σ.set i none) H { s with heap := h', toks := t' } := by
  obtain ⟨mI, hnI, hlk⟩ := id I.loc
  have em : ∀ y, mI y = m y := fun y => by
    obtain ⟨o1, es1, ep1, e1, d1, k1, f1⟩ := hnI
    obtain ⟨o2, es2, ep2, e2, d2, k2, f2⟩ := hn0
    rw [e1] at e2
    cases e2
    rw [d1] at d2
    cases d2
    rw [← f1 y, ← f2 y]
  have neL : ∀ b o, X.s_0.heap.get? b = some o → b ≠ X.env.locals := fun b o e => Nat.ne_of_lt (Nat.lt_of_lt_of_le (Heap.lt_size e) I.ok.above)
  refine ⟨I.ok, I.os, I.bare, ⟨fun b o e n hb hx => ?_, fun b o e n hb hx => ?_, I.base.free, fun b o e hx => ?_, I.base.tups, I.base.frzs, I.base.tbls⟩, ⟨_, hn', fun j y v' e1 e2 e3 => ?_⟩, fun y c e => ?_, I.free, I.freeC, fun p hp => ?_, fun b ob e => ?_, by simpa using I.len⟩
  · exact (hs.2 b (neL b o e)).trans (I.base.keep b o e n hb hx)
  · obtain ⟨sl, e1⟩ := I.base.slot b o e n hb hx
    exact ⟨sl, (hs.2 b (neL b o e)).trans e1⟩
  · obtain ⟨o', e1⟩ := I.base.there b o e hx
    exact ⟨o', (hs.2 b (neL b o e)).trans e1⟩
  · by_cases hj : j = i
    · subst hj
      by_cases hlt : j < σ.length
      · rw [List.getElem?_set_self hlt] at e2; cases e2
      · rw [List.getElem?_eq_none (by simpa using hlt)] at e2; cases e2
    · rw [List.getElem?_set_ne (Ne.symm hj)] at e2
      obtain ⟨u', r', q⟩ := hlk j y v' e1 e2 e3
      refine ⟨u', r', ?_⟩
      rcases q with ⟨k, e⟩ | ⟨k, c, e, z⟩
      · have ny : y ≠ n := fun e => hj (nodup_ix hN e1 (e ▸ hi))
        exact .inl ⟨k, (if_neg ny).trans ((em y).symm.trans e)⟩
      · exact .inr ⟨k, c, e, z.sameBut hs (I.cne y c e)⟩
  · obtain ⟨w', z⟩ := I.cell y c e
    exact ⟨w', z.sameBut hs (I.cne y c e)⟩
  · obtain ⟨e, n, ne, nf, d⟩ := I.pin p hp
    exact ⟨(hs.2 p.1 ne).trans e, n, ne, nf, d⟩
  · refine (I.hok b ob e).stay (fun c w' hc q => (hs.2 c ?_).trans q) (fun _ q => q) fun _ _ q => q
    intro z
    subst z
    rcases hc with hc | hc
    · rw [← hc, I.free] at e; cases e
    · rw [I.free] at hc; cases hc
/-- what flies out of a named suite: it is noted, the name goes, it is passed on and comes back into the def's own activation -/
theorem takes_as {a : Addr} {q : Addr × Obj} {pos : Pos} {Wout : WX} {xe E₁ E₂ : Value → Shared → Prop} (hs : X.stack = X.env :: X.outer) (hf : X.env.frame = some X.env.locals) (hN : X.N.Nodup) (hi : X.N[i]? = some n) (hln : X.env.kindOf n = some .local) (tk : L2.Takes X Wout) (ok : X.Ok)
    {u : Value} {s' : Shared} (x : L2.XE (suiteA X a (q :: (X.pn ++ pins)) xe) (fun c d σ H => Wout c d (σ.set i none) H) u s') :
    wpAny (model X.prog X.w) (X.A.mark (some (.ref a))) (noteFrame u X.env) (fun _ s₃ => wpAny (model X.prog X.w) (X.A.mark (some (.ref a))) (do bindName X.env n .none; unbindBehindTheSuite X.env n pos)
      (fun _ s₄ => wpAny (model X.prog X.w) (X.A.mark (some (.ref a))) (passOn "try.except-as" u X.env : Sem Flow) (fun _ _ => False) (notedBy (model X.prog X.w) (X.A.mark (some (.ref a))) X.env (cameBackBy (model X.prog X.w) X.A X.env X.xe)) s₄) E₂ s₃) E₁ s' := by
  obtain ⟨a2, B, sI, pn2, σ, H, cls, d, rfl, I, nb, up, sky, na, os, ag, w⟩ := x
  have J : Inv X pins σ H sI := Inv.unsuite (X := X) (a := a) (q := q) (pn' := pn2) (show Inv (X.suite a (q :: (X.pn ++ pins))) pn2 σ H sI from I.wish fun _ _ => False) ok
  have hfr : (X.A.mark (some (.ref a))).frames = some (X.env :: X.outer) := by
    show X.A.frames = _
    rw [ok.frames, hs]
  have sky : Sky B (X.env :: X.outer) a2 (Zc cls d) X.env.locals s'.heap := by rw [← hs]; exact sky
  have nb : ∀ b o, sI.heap.get? b = some o → b ∉ frs X.stack → B.get? b = some o := nb
  have hcls : (X.env.scope.kind == .class || (X.env.scope.kind == .module && X.env.locals != X.env.globals)) = false := by rw [ok.kind]; rfl
  obtain ⟨mI, hnI, _⟩ := id J.loc
  have fin : ∀ h1, HandSPX.HeldZ B (X.env :: X.outer) a2 (Zc cls d) X.env.locals h1 → s'.heap.UpToSlots h1 → wpAny (model X.prog X.w) (X.A.mark (some (.ref a))) (do bindName X.env n .none; unbindBehindTheSuite X.env n pos)
      (fun _ s₄ => wpAny (model X.prog X.w) (X.A.mark (some (.ref a))) (passOn "try.except-as" (.ref a2) X.env : Sem Flow) (fun _ _ => False) (notedBy (model X.prog X.w) (X.A.mark (some (.ref a))) X.env (cameBackBy (model X.prog X.w) X.A X.env X.xe)) s₄) E₂ { s' with heap := h1 } := by
    intro h1 hh up1
    have upA := up.trans up1
    have hn : h1.Ns X.env.locals mI := upA.ns hnI
    have hbL : B.get? X.env.locals = none := by
      obtain ⟨_, ⟨L', _, hf', hb', _⟩, _⟩ := hh.2.2.1
      rw [hf] at hf'
      rw [Option.some.inj hf']
      exact hb'
    refine wpAny_nameGoes_keeps hln hn hcls fun h2 v hn2 hs2 => ?_
    have hh2 : HandSPX.HeldZ B (X.env :: X.outer) a2 (Zc cls d) X.env.locals h2 :=
      ⟨fun b o hb => (hs2.2 b fun z => by rw [z, hbL] at hb; cases hb).trans (hh.1 b o hb), hh.2.1, Heap.FunFrames.sameBut hs2 hn2 hh.2.2.1, tracedZ_sameBut hh.2.2.2 hn hs2⟩
    obtain ⟨oe, vs, T, oT, ts, he, hz, hd, h1', r⟩ := id hh2.2.2.2
    unfold PySem.passOn
    refine wpAny_bind (wpAny_field he hd h1' ?_)
    rw [if_neg (show ¬ ((Value.ref T == Value.none) = true) from by simp)]
    rw [hf]
    have go : wpAny (model X.prog X.w) (X.A.mark (some (.ref a))) (setFlight (.ref a2) (some X.env.locals)) (fun _ s4 => wpAny (model X.prog X.w) (X.A.mark (some (.ref a))) (throw (.ref a2) : Sem Flow) (fun _ _ => False) (notedBy (model X.prog X.w) (X.A.mark (some (.ref a))) X.env (cameBackBy (model X.prog X.w) X.A X.env X.xe)) s4) (notedBy (model X.prog X.w) (X.A.mark (some (.ref a))) X.env (cameBackBy (model X.prog X.w) X.A X.env X.xe)) { s' with heap := h2, toks := s'.toks + 1 } := by
      refine HandSPX.setFlight_onZ hh2 fun h3 hh3 up3 => wpAny_throw ?_
      show wpAny _ _ (noteFrame (.ref a2) X.env) _ _ _
      refine HandSPX.againZ hf hh3.2.2.2 ?_
      obtain ⟨oe3, vs3, T3, oT3, ts3, he3, hz3, hd3, h13, r3⟩ := id hh3.2.2.2
      show wpAny _ X.A (do
        if (← field (.ref a2) 1) == .none then unsupported "frame.own-activation:exception-without-traceback"
        setFlight (.ref a2) X.env.frame) _ _ _
      refine wpAny_bind (wpAny_field he3 hd3 h13 ?_)
      rw [if_neg (show ¬ ((Value.ref T3 == Value.none) = true) from by simp)]
      rw [hf]
      refine HandSPX.setFlight_onZ hh3 fun h4 hh4 up4 => tk _ _ ?_
      obtain ⟨oL, es, ep, hoL, hdL, hkL, hfL⟩ := id hn2
      obtain ⟨oI, esI, epI, hoI, hdI, _⟩ := id hnI
      have eL : (sI.heap.update X.env.locals fun _ => oL).get? X.env.locals = some oL := Heap.get?_update_self (fun _ => oL) hoI (Obj.isFreed_of_dict hdL)
      have eO : ∀ b, b ≠ X.env.locals → (sI.heap.update X.env.locals fun _ => oL).get? b = sI.heap.get? b := fun b hb => Heap.get?_update_other _ _ (Ne.symm hb)
      have J2 : Inv X pins (σ.set i none) H { sI with heap := sI.heap.update X.env.locals fun _ => oL, toks := sI.toks } :=
        inv_gone (t' := sI.toks) (m := mI) (v := v) J hN hi hnI ⟨oL, es, ep, eL, hdL, hkL, hfL⟩ (Heap.SameBut.update _ _ _)
      have upB := up3.trans up4
      refine ⟨a2, B, _, pins, _, H, cls, d, rfl, J2, fun b o e hb => ?_, fun b o e hnf => ?_, .inr (.inr (by rw [hs]; exact hh4)), na, os, ag, w⟩
      · have hbL2 : b ≠ X.env.locals := fun z => hb (by rw [z, hs]; exact List.mem_filterMap.mpr ⟨X.env, List.mem_cons_self, hf⟩)
        exact nb b o ((eO b hbL2).symm.trans e) hb
      · by_cases hbL2 : b = X.env.locals
        · subst hbL2
          have e' : some oL = some o := eL.symm.trans e
          cases e'
          exact upB _ _ hoL hnf
        · obtain ⟨sl, e1⟩ := upA b o ((eO b hbL2).symm.trans e) hnf
          obtain ⟨sl2, e2⟩ := upB b _ ((hs2.2 b hbL2).trans e1) hnf
          exact ⟨sl2, e2⟩
    first
      | exact wpAny_bind (wpAny_pure (wpAny_bind go))
      | exact wpAny_bind go
  rcases sky with ⟨hB, hn, hl, oe, vs, he, hz, hd, h1⟩ | fl | hh
  · exact HandSPX.look_newZ Zc.steady hfr hl hf he hB hn hd h1 hz fin
  · exact HandSPX.looks_onZ Zc.steady hfr hf fl fin
  · exact HandSPX.againZ hf hh.2.2.2 (fin s'.heap hh (Heap.UpToSlots.refl _))
end
section
variable {X : Cx} {x n : Str} {c : Value} {i : Nat} {body suite : List Stmt} {b₀ : Stmt} {np pos pos' : Pos} {tb : WX → TS} {ts : Addr → Value → Option Addr → TS} {Wout : WX}
/-- try: body, except x as n: suite that may raise out -/
theorem ps_try_asX (hs : X.stack = X.env :: X.outer) (hf : X.env.frame = some X.env.locals) (hN : X.N.Nodup) (hi : X.N[i]? = some n) (hln : X.env.kindOf n = some .local) (hc : Names X x c) (tk : L2.Takes X Wout)
    (hb : ∀ (W : WX) (pn : List (Addr × Obj)) (xe : Value → Shared → Prop), L2N.Takes (X.tr pn xe) W → PassesOwn (model X.prog X.w) X.A X.env xe → PSs (X.tr pn xe) body (tb W))
    (hsu : ∀ (a : Addr) (oe : Obj) (cls : Value) (d : Option Addr) (pn : List (Addr × Obj)) (xe : Value → Shared → Prop), L2N.Zn cls d oe → (∃ vs, oe.data = .fields vs) → L2.Takes (suiteA X a ((a, oe) :: pn) xe) (fun c d σ H => Wout c d (σ.set i none) H) → HotC (suiteA X a ((a, oe) :: pn) xe) →
      PSs (suiteA X a ((a, oe) :: pn) xe) (b₀ :: suite) (ts a cls d)) :
    PS X (.Try body [.ExceptHandler (some (.Name x np)) (some n) (b₀ :: suite) pos'] [] [] pos) (fun D σ H => tb (wAs X.K c i ts Wout D) D σ H) := by
  refine ⟨fun pins s σ H D I h => ?_⟩
  have ok := I.ok
  have hfr : X.A.frames = some (X.env :: X.outer) := by rw [ok.frames, hs]
  have hloc : Loc X.env.scope n := .inl hln
  refine wpAny_Try_except ?_
  refine wpAny_mono ((hb (wAs X.K c i ts Wout D) (X.pn ++ pins) (fun e s₁ => wpAny (model X.prog X.w) X.A (noteFrame e X.env) (fun _ s₂ => wpAny (model X.prog X.w) X.A (setFlight e none) (fun _ s₃ =>
    wpAny (model X.prog X.w) X.A (handleBy e X.env [.ExceptHandler (some (.Name x np)) (some n) (b₀ :: suite) pos']) (SP X pins D) X.xe s₃) X.xe s₂) X.xe s₁) (fun u s' xx => ?_) PassesOwn.looking).run [] s σ H D (I.toTry _) h) (fun f s1 hsp => ?_) (fun e s1 he => he)
  · obtain ⟨a, B, sI, pins', σ', H', cls, d, rfl, J', nb, up, sky, na, os, ag, b, hb1, hyes, hno⟩ := xx
    have J : Inv X pins σ' H' sI := J'.ofTry ok
    have sky' : Sky B (X.env :: X.outer) a (L2N.Zn cls d) X.env.locals s'.heap := by rw [← hs]; exact sky
    show wpAny (model X.prog X.w) X.A (noteFrame (.ref a) X.env) _ _ _
    refine L2N.Sky.land L2N.Zn.steady hfr hf sky' fun h3 fl3 up3 => ?_
    have J3 : Inv X pins σ' H' { s' with heap := h3 } := J.landed nb fl3.1 (up.trans up3) os ag
    obtain ⟨oe3, vs3, he3, hz3, hd3⟩ := fl3.there
    have nfr : a ∉ frs (X.env :: X.outer) := fun hm => by
      obtain ⟨_, o', e', hnf⟩ := fl3.2.2.1.mem hm
      rw [he3] at e'; cases e'
      exact hnf _ hd3
    have nL : a ≠ X.env.locals := fun z => nfr (List.mem_filterMap.mpr ⟨X.env, List.mem_cons_self, by rw [hf, z]⟩)
    have nF : a ∉ X.fs := fun hm => by
      obtain ⟨e, he, q⟩ := List.mem_filterMap.mp hm
      exact nfr (List.mem_filterMap.mpr ⟨e, List.mem_cons_of_mem _ he, q⟩)
    have S3 := J3.suite he3 hd3 na nL nF
    refine wpAny_handleBy_cons (codeAny_handlers_test ?_) (by intro q; cases q)
    have LT : PySem.W.Looks (model X.prog X.w) h3 (typeOf (.ref a)) cls := fun A Q E s k q => wpAny_typeOf_ref (k _ _ he3) (by rw [hz3.1]; exact q)
    have LM := PySem.W.exm_one (M := model X.prog X.w) (J3.kIn) LT hb1
    have test : ∀ {Q : Value → Shared → Prop} {E : Value → Shared → Prop}, Q c { s' with heap := h3 } → wpAny (model X.prog X.w) (X.A.mark (some (.ref a))) (eval (.Name x np) X.env) Q E { s' with heap := h3 } := fun {Q E} q => by
      obtain ⟨hg, hdbg, hm | ⟨hm, hv, hnn⟩⟩ := hc
      · exact ld_glob (X := X.suite a ((a, oe3) :: (X.pn ++ pins))) S3 hg hm q hdbg
      · exact ld_blt (X := X.suite a ((a, oe3) :: (X.pn ++ pins))) S3 hg hm hv q hnn hdbg
    refine test (LM.here ?_)
    cases b with
    | true =>
      refine codeAny_handlers_suite_as ?_
      refine HandSPX.lands_againZ fl3 fun h4 fl4 up4 => ?_
      have J4 : Inv X pins σ' H' { s' with heap := h4 } := J.landed nb fl4.1 ((up.trans up3).trans up4) os ag
      obtain ⟨oe4, vs4, he4, hz4, hd4⟩ := fl4.there
      have S4 := J4.suite he4 hd4 na nL nF
      refine store_ok (X := X.suite a ((a, oe4) :: (X.pn ++ pins))) (v := .ref a) S4 hN hi hloc rfl (fun s5 S5 => ?_) (.inr hln)
      have hot : ∀ xe, HotC (suiteA X a ((a, oe4) :: (X.pn ++ pins)) xe) := fun xe => ⟨(a, oe4), ⟨rfl, vs4, hd4, hz4.2.2 vs4 hd4⟩, List.mem_cons_self⟩
      have end_ : ∀ {σ6 : L2.St} {H6 : Hp} {s6 : Shared} {Q : Shared → Prop} {xe : Value → Shared → Prop} {E : Value → Shared → Prop}, Inv (suiteA X a ((a, oe4) :: (X.pn ++ pins)) xe) [] σ6 H6 s6 → (∀ s7, Inv X pins (σ6.set i none) H6 s7 → Q s7) → wpAny (model X.prog X.w) X.A (do bindName X.env n .none; unbindBehindTheSuite X.env n pos') (fun _ s7 => Q s7) E s6 := fun {σ6 H6 s6 Q xe E} S6 hq =>
        gone_ok (Inv.unsuite (X := X) (a := a) (q := (a, oe4)) (pn' := []) (show Inv (X.suite a ((a, oe4) :: (X.pn ++ pins))) [] σ6 H6 s6 from S6.wish fun _ _ => False) ok) hN hi hln hq
      refine wpAny_mono ((hsu a oe4 cls d (X.pn ++ pins) _ hz4 ⟨_, hd4⟩ (fun u s' x => takes_as (pins := pins) (pos := pos') hs hf hN hi hln tk ok x) (hot _)).run [] s5 _ H' _ (Inv.unwish (X := suiteA X a ((a, oe4) :: (X.pn ++ pins)) _) (E := fun _ _ => False) S5) (hyes rfl a na)) (fun f s6 hsp => ?_) (fun _ _ z => z)
      cases f with
      | next => obtain ⟨σ6, H6, S6, q6⟩ := hsp; exact end_ S6 fun s7 J7 => ⟨_, _, J7, q6⟩
      | brk => obtain ⟨σ6, H6, S6, q6⟩ := hsp; exact end_ S6 fun s7 J7 => ⟨_, _, J7, q6⟩
      | cont => obtain ⟨σ6, H6, S6, q6⟩ := hsp; exact end_ S6 fun s7 J7 => ⟨_, _, J7, q6⟩
      | ret u => obtain ⟨v6, σ6, H6, S6, r6, q6⟩ := hsp; exact end_ S6 fun s7 J7 => ⟨_, _, _, J7, r6, q6⟩
    | false =>
      show wpAny _ X.A (handleBy (.ref a) X.env []) _ _ _
      refine wpAny_handleBy_nil ?_
      have fl3' := flyingZ_imp (Z' := Zc cls d) (fun o z => z.zc) fl3
      obtain ⟨k1, k2, k3, oe, vs, T, oT, ts', he, hz, hd, h1, hr⟩ := id fl3'
      unfold PySem.passOn
      refine wpAny_bind (wpAny_field he hd h1 ?_)
      rw [if_neg (show ¬ ((Value.ref T == Value.none) = true) from by simp)]
      have fin : wpAny (model X.prog X.w) X.A (setFlight (.ref a) X.env.frame) (fun _ s4 => wpAny (model X.prog X.w) X.A (throw (.ref a) : Sem Flow) (SP X pins D) X.xe s4) X.xe { s' with heap := h3 } := by
        rw [hf]
        refine HandSPX.setFlight_upZ fl3' fun h4 hh4 up4 => wpAny_throw (tk _ _ ?_)
        exact ⟨a, B, sI, pins, σ', H', cls, d, rfl, J, nb, (up.trans up3).trans up4, .inr (.inr (by rw [hs]; exact hh4)), na, os, ag, hno rfl⟩
      first
        | exact wpAny_bind (wpAny_pure (wpAny_bind fin))
        | exact wpAny_bind fin
  · cases f with
    | next => obtain ⟨σ', H', J', q⟩ := hsp; exact wpAny_execs_nil ⟨σ', H', J'.ofTry ok, q⟩
    | brk => obtain ⟨σ', H', J', q⟩ := hsp; exact ⟨σ', H', J'.ofTry ok, q⟩
    | cont => obtain ⟨σ', H', J', q⟩ := hsp; exact ⟨σ', H', J'.ofTry ok, q⟩
    | ret u => obtain ⟨v, σ', H', J', r, q⟩ := hsp; exact ⟨v, σ', H', J'.ofTry ok, r, q⟩
end
end L2H
namespace L2
open PySem PySem.Spec PyProof.Rows L2H HotX
section
variable {P : Program} {w : World} {K : PySem.W.Frag} {mg : Str → Option Value} {base : Heap}
/-- as Fun.okX, for a def whose exceptions have no context -/
theorem Fun.okN {x qual : Str} {st : Stmt} {f : Addr} {fd : FuncData} {N ps : List Str} {k : Nat} {sp : Sp} (F : Fun K x qual st f fd) (S : FnScope N ps (defScope st)) (len : ∀ vs H Q E, sp vs H Q E → vs.length = ps.length)
    (hbody : ∀ (cdv : Value) (A : Around) (outer : List Env) (s : Shared) (H : Hp) (vs : List V) (Q : VK) (E : XK), Room k (A.deeper (envOfC qual (defScope st) s.heap.objs.size f cdv)) → sp vs H Q E →
      ∃ t, PSs (cxOf (L2N.CX P w) P w K mg base N qual (defScope st) f cdv A outer s H E) (defBody st) t ∧ t { nx := fun _ H' => Q .non H', rt := Q } (start N vs) H) : FnOk P w K mg base (L2N.CX P w) (k + 1) f fd ps sp := by
  obtain ⟨oc, od, kV, doc, pm, an, cdv, ct, osl, rfl, lk, hcd⟩ := F.ex
  exact fn_of lk hcd S len fun A outer s H vs Q E hr hsp => hbody cdv A outer s H vs Q E hr hsp
theorem FnOk.toX {k : Nat} {f : Addr} {fd : FuncData} {ps : List Str} {sp : Sp} (F : FnOk P w K mg base (L2N.CX P w) k f fd ps sp) : FnOk P w K mg base (L2.CX P w) k f fd ps sp :=
  ⟨F.len, fun A outer s H args us vs Q E hr e b r h => codeAny_mono (F.run A outer s H args us vs Q E hr e b r h) fun r s' q => by
    cases r with
    | error e =>
      obtain ⟨a, B, H', cls, d, e1, fl, hok, ub, na, os, ag, hE⟩ := q
      exact ⟨a, B, H', cls, d, e1, flyingZ_imp (fun o z => z.zc) fl, hok, ub, na, os, ag, hE⟩
    | ok fl => cases fl <;> exact q⟩
theorem _root_.L2H.RoomH.u2 {k : Nat} {A : Around} (r : RoomH k A) : A.units + 2 < cLine := by have := r.un; omega
/-- a def's promise while an exception is handled -/
theorem Fun.okH {x qual : Str} {st : Stmt} {f : Addr} {fd : FuncData} {N ps : List Str} {k : Nat} {sp : Sp} (F : Fun K x qual st f fd) (S : FnScope N ps (defScope st)) (len : ∀ vs H Q E, sp vs H Q E → vs.length = ps.length)
    (hbody : ∀ (cdv : Value) (A : Around) (outer : List Env) (s : Shared) (H : Hp) (vs : List V) (Q : VK) (E : XK) (p : Addr × Obj), Hot1 A p → RoomH k (A.deeper (envOfC qual (defScope st) s.heap.objs.size f cdv)) → sp vs H Q E →
      ∃ t, PSs (cxH CX0 P w K mg base N qual (defScope st) f cdv A outer s H E p).nox (defBody st) t ∧ t { nx := fun _ H' => Q .non H', rt := Q } (start N vs) H) : FnH P w K mg base CX0 (k + 1) f fd ps sp := by
  obtain ⟨oc, od, kV, doc, pm, an, cdv, ct, osl, rfl, lk, hcd⟩ := F.ex
  refine fn_ofH lk hcd S len fun A outer s H vs Q E p hp hr hsp => ?_
  obtain ⟨t, h, q⟩ := hbody cdv A outer s H vs Q E p hp hr hsp
  exact ⟨t, h.nox, q⟩
theorem FunD.okH {x qual : Str} {params : Arguments} {body : List Stmt} {scope : Scope} {dvs : List V} {f : Addr} {fd : FuncData} {N ps : List Str} {k : Nat} {sp : Sp} (F : FunD K x qual params body scope dvs [] f fd) (S : FnScope N ps scope) (len : ∀ vs H Q E, sp vs H Q E → vs.length = ps.length)
    (hbody : ∀ (cdv : Value) (A : Around) (outer : List Env) (s : Shared) (H : Hp) (vs : List V) (Q : VK) (E : XK) (p : Addr × Obj), Hot1 A p → RoomH k (A.deeper (envOfC qual scope s.heap.objs.size f cdv)) → sp vs H Q E →
      ∃ t, PSs (cxH CX0 P w K mg base N qual scope f cdv A outer s H E p).nox body t ∧ t { nx := fun _ H' => Q .non H', rt := Q } (start N vs) H) : FnH P w K mg base CX0 (k + 1) f fd ps sp := by
  obtain ⟨⟨oc, od, dV, kV, doc, pm, an, cdv, ct, osl, rfl, lk, hcd, _⟩, _⟩ := F
  refine fn_ofH lk hcd S len fun A outer s H vs Q E p hp hr hsp => ?_
  obtain ⟨t, h, q⟩ := hbody cdv A outer s H vs Q E p hp hr hsp
  exact ⟨t, h.nox, q⟩
end
theorem hotC_cxH {CX : CXT} {P : Program} {w : World} {K : PySem.W.Frag} {mg : Str → Option Value} {base : Heap} {N : List Str} {qual : Str} {scope : Scope} {f : Addr} {cd : Value} {A : Around} {outer : List Env} {s : Shared} {H : Hp} {E : XK} {p : Addr × Obj} (h : Hot1 A p) :
    HotC (cxH CX P w K mg base N qual scope f cd A outer s H E p).nox := ⟨p, ⟨h.1, h.2⟩, List.mem_cons_self⟩
section
variable {X : Cx}
/-- C.m(e, ..) while an exception is handled -/
theorem pe_clsfH {CX : CXT} {k : Nat} {C f : Addr} {fd : FuncData} {ps : List Str} {mc : Value} {sp : Sp} {E : XK} {o e : Expr} {es : List Expr} {m : Str} {pos apos : Pos} {ta : TE} {t : TA} {pl : Sem Bool} (he : PE X o ta) (r : ClX.CRead X.K C mc) (at_ : PySem.W.findCls X.K (.ref C) mc m = some (.val (.ref f)))
    (F : FnH X.prog X.w X.K X.mg X.base CX k f fd ps sp) (hr : RoomH k X.A) (hc : HotC X) (hk : PySem.W.keepIn X.K (.ref f) = true) (hb : Binds X.K fd ps []) (hx : ∀ σ, PassesAt CX X σ E) (ha : PA X (e :: es) t)
    (hst : starEach (e :: es) X.env = (false, eval e X.env) :: starEach es X.env := by rfl) (hpl : (backTo pos (starEach es X.env)).any (·.1) = false := by rfl)
    (ht : eval (.Call (.Attribute o m apos) (e :: es) [] pos) X.env = (do
      let ov ← eval o X.env
      standAt apos.atName
      let (f, first) ← holding [ov] (getMethod ov m pl)
      callWith pos f first (backTo pos (starEach (e :: es) X.env)) (backToKw pos (keywordEach [] X.env))) := by rfl) :
    PE X (.Call (.Attribute o m apos) (e :: es) [] pos) (tClsF C sp E ta t) := by
  refine ⟨fun pins s σ H Q I h => ?_⟩
  refine PySem.W.methodCall_KW (pl := pl) (thn (he.run pins s σ H _ I h) fun u s1 ⟨x, H1, I1, rx, ex, q⟩ => ?_) ht
  subst ex
  obtain rfl : u = Value.ref C := rx
  refine PySem.W.method_cls I1.kIn r.ga (ClX.getcval_ok (v := .ref f) I1 r ⟨at_, rfl⟩ fun s2 I2 => ?_)
  refine PySem.W.callWith_K (h₀ := X.base) I2.ok.mod.kin hk (thn (ha.run pos pins s2 σ H1 _ I2 q) fun us s3 ⟨vs, H2, I3, rv, q2⟩ => ⟨I3.kIn, ?_⟩) hst hpl
  exact run_fnH (E := fun _ => E) F hr hc hb (hx σ) I3 rv q2
/-- C(e, ..), an exception with no context -/
theorem pmkN_oex {CX : CXT} {x : Str} {e : Expr} {es : List Expr} {ta : TA} {p pos : Pos} {C fI : Addr} {k : Nat} {fd : FuncData} {ps : List Str} {sp : Sp} {ds : List Value} {dvs : List V} (T : OexC X.K C) (iC : PySem.W.findIn X.K (.ref C) "__init__" = some (some (.ref fI))) (tI : PySem.W.typeIn X.K (.ref fI) = some (.type "function"))
    (F1 : FnOk X.prog X.w X.K X.mg X.base CX k fI fd ps sp) (hr : Room (k + 1) X.A) (hb : Binds X.K fd ps ds) (hd : Vals dvs ds) (hx : Passes CX X (fun _ _ _ => False)) (hg : Gl X x) (hm : X.mg x = some (.ref C)) (ha : PA X (e :: es) ta)
    (hdb : (x == ("__debug__" : Str)) = false := by decide) (he : starEach (e :: es) X.env = (false, eval e X.env) :: starEach es X.env := by rfl) (hpl : (backTo pos (starEach es X.env)).any (·.1) = false := by rfl) :
    L2N.PMk X (.Call (.Name x p) (e :: es) [] pos) (tMkO C sp dvs ta) := by
  intro pins s σ H Q I h
  obtain ⟨nm, q, N, bs, bm, sn, sub, ab, col, dd, k0, k1, k2, k3, k5, hC, hbm⟩ := T.cls
  refine wpAny_Call_Name_kw (ld_glob I hg hm ?_ hdb)
  refine PySem.W.callWith_K (h₀ := X.base) I.ok.mod.kin T.kC (thn (ha.run pos pins s σ H _ I h) fun us s1 ⟨vs, H1, I1, r1, hz, q1⟩ => ⟨I1.kIn, ?_⟩) he hpl
  show wpAny _ _ (call (.ref C) us) _ _ _
  obtain ⟨hp, g, dr, tk, os⟩ := s1
  have hsz : hp.objs.size ≤ hp.objs.size + 1 := Nat.le_succ _
  have hn : H1 (hp.objs.size + 1) = none := I1.hok.fresh hsz
  have hq := q1 (hp.objs.size + 1) hn
  have kk : ∀ b o, hp.get? b = some o → ((hp.push (PySem.W.kdv_tup us)).push (PySem.HandSPX.excO C hp.objs.size)).get? b = some o := fun b o e => Heap.get?_push_of_some _ (Heap.get?_push_of_some _ e)
  have hget : ((hp.push (PySem.W.kdv_tup us)).push (PySem.HandSPX.excO C hp.objs.size)).get? (hp.objs.size + 1) = some (PySem.HandSPX.excO C hp.objs.size) := by heap_get
  have I2 : Inv X pins σ (upd H1 (hp.objs.size + 1) (exo (hp.objs.size + 1) C none)) ⟨(hp.push (PySem.W.kdv_tup us)).push (PySem.HandSPX.excO C hp.objs.size), g, dr, tk, os⟩ :=
    I1.laid (t' := tk) (a := hp.objs.size + 1) (o := exo (hp.objs.size + 1) C none) (h' := (hp.push (PySem.W.kdv_tup us)).push (PySem.HandSPX.excO C hp.objs.size)) kk hsz (exo_ok hget)
  have r2 : Vals (V.ref (hp.objs.size + 1) :: (vs ++ dvs)) (Value.ref (hp.objs.size + 1) :: (us ++ ds)) := .cons rfl (r1.append hd)
  have hl : (Value.ref (hp.objs.size + 1) :: us ++ ds).length = ps.length := by
    have e := r2.length
    rw [F1.len _ _ _ _ hq] at e
    exact e.symm
  have hus : us.length ≤ sizeLine := by
    rw [← Paired.length r1, sizeLine_eq]
    omega
  refine wpAny_call (PySem.HandSPX.call_own F.excBase_ValueError (fun Y => PySem.HandSPX.refsVE_contains Y bm hbm) (I1.kIn _ _ hC) (PySem.W.looks_findIn I1.kIn iC) (fun self => PySem.W.bind_fn I1.kIn self tI) hus
    (codeAny_mono (F1.run _ X.stack _ _ ⟨Value.ref (hp.objs.size + 1) :: us, []⟩ (Value.ref (hp.objs.size + 1) :: (us ++ ds)) _ _ (fun _ _ _ => False) (hr.make C us []) (I2.env0.make C us []) (hb _ (Value.ref (hp.objs.size + 1) :: us) I2.kIn hl) r2 hq) fun r s' hq' => ?_))
  cases r with
  | error er => exact hx pins σ _ _ er s' I2 hq'
  | ok fl =>
    cases fl with
    | ret u =>
      obtain ⟨v, H2, os2, bare2, un2, hok2, rv, ev, d, fs, ea, ed, hd1, q2⟩ := hq'
      subst ev
      obtain ⟨h2, g2, d2, t2, os'⟩ := s'
      obtain ⟨t0, G, J, kG, ge, hoe, na⟩ := mk_end0 (d2 := d2) (t2 := t2) I1 hsz kk un2 hok2 os2 bare2 ea ed hd1
      refine ⟨rv, hp.objs.size + 1, _, _, ⟨G, g2, d2, t2, os'⟩, _, .ref C, some d, rfl, J, kG, ge, hoe, ⟨rfl, rfl, fun vs hv => ?_⟩, rfl, rfl, na, rfl, bare2, raises_own T.exC T.tyC, q2⟩
      cases hv
      rfl
    | next => exact False.elim hq'
    | brk => exact False.elim hq'
    | cont => exact False.elim hq'
theorem pass0H {X : Cx} {E : XK} : ∀ σ, PassesAt CX0 X σ E := fun _ _ _ _ _ _ _ h => h.elim
end
end L2
namespace K
open PySem PySem.Spec PyProof.Rows L2
open Sw (T3 Dist at? relax roundOf rounds IsNext Cand IsFar nbr candL WayTo lotOf)
/-- a def whose exceptions have no context, as it can be called -/
structure CalN (P : Program) (w : World) (K : PySem.W.Frag) (mg : Str → Option Value) (base : Heap) (k : Nat) (x : Str) (f : Addr) (fd : FuncData) (ps : List Str) (sp : Sp) : Prop where
  ok : FnOk P w K mg base (L2N.CX P w) k f fd ps sp
  g : mg x = some (.ref f)
  kp : PySem.W.keepIn K (.ref f) = true
  b : Binds K fd ps []
theorem CalN.x {P : Program} {w : World} {K : PySem.W.Frag} {mg : Str → Option Value} {base : Heap} {k : Nat} {x : Str} {f : Addr} {fd : FuncData} {ps : List Str} {sp : Sp} (h : CalN P w K mg base k x f fd ps sp) : CalX P w K mg base k x f fd ps sp := ⟨h.ok.toX, h.g, h.kp, h.b⟩
/-- a refusal's class with the promise of its __init__ while an exception is handled -/
structure ExcH (P : Program) (w : World) (K : PySem.W.Frag) (mg : Str → Option Value) (base : Heap) (k : Nat) (x : Str) (C fI : Addr) (fd : FuncData) (ps : List Str) (sp : Sp) : Prop where
  t : ExcT K mg x C fI
  ok : L2H.FnH P w K mg base CX0 k fI fd ps sp
  b : Binds K fd ps []
/-- C(i, j) of two ints -/
def spIn2 (K : PySem.W.Frag) (f g wd : Str) : Sp := fun vs H Q _ => ∃ (a C : Addr) (i j : Int), vs = [.ref a, .int i, .int j] ∧ i.natAbs.log2 < 1920 ∧ j.natAbs.log2 < 1920 ∧ OexC K C ∧ PySem.W.findIn K (.ref C) "word" = some none ∧ PySem.W.findIn K (.ref C) f = some none ∧ PySem.W.findIn K (.ref C) g = some none ∧ H a = some (exo a C none) ∧
  ∀ (dx : Addr) (H' : Hp), H dx = none → dx ≠ a → (∀ b o, H b = some o → b ≠ a → H' b = some o) → H' a = some (exo a C (some dx)) → H' dx = some (exd dx [(g, .int j), (f, .int i), ("word", .str wd)]) → Q .non H'
def TieX (CT : Addr) (i j : Int) (H : Hp) (E : XK) : Prop := ∀ (d : Addr) (H' : Hp), H d = none → Same H H' → H' d = some (.xd [("other", .int j), ("one", .int i), ("word", .str "notie")]) → E (.ref CT) (some d) H'
/-- the ties but those that join u and v -/
def lft (ts : List T3) (u v : Nat) : List T3 := ts.filter fun e => !((e.1 == u && e.2.1 == v) || (e.2.1 == u && e.1 == v))
theorem lft_sub {ts : List T3} {u v : Nat} : ∀ e ∈ lft ts u v, e ∈ ts := fun e m => (List.mem_filter.mp m).1
theorem lft_len (ts : List T3) (u v : Nat) : (lft ts u v).length ≤ ts.length := List.length_filter_le _ _
theorem lft_fits {n : Nat} {ts : List T3} {u v : Nat} (h : Fits n ts) : Fits n (lft ts u v) := fun e m => h e (lft_sub e m)
theorem lft_good {n : Nat} {ts : List T3} {u v : Nat} (h : Good n ts) : Good n (lft ts u v) := fun e m => h e (lft_sub e m)
def spWithout : Sp := fun vs H Q _ => ∃ (u v : Nat) (t : Addr) (ts : List T3), vs = [.ref t, .int (u : Nat), .int (v : Nat)] ∧ TiesAt H t ts ∧ ts.length ≤ 400 ∧ ∀ p H', H p = none → Same H H' → TiesAt H' p (lft ts u v) → Q (.ref p) H'
def spRoundX (CH CT CL : Addr) : Sp := fun vs H Q E => ∃ (n : Nat) (s g : Int) (t : Addr) (ts : List T3), vs = [.int (n : Nat), .ref t, .int s, .int g] ∧ n ≤ 9 ∧ s.natAbs.log2 < 1920 ∧ g.natAbs.log2 < 1920 ∧ TiesAt H t ts ∧ ts.length ≤ 400 ∧ Fits n ts ∧ (∀ e ∈ ts, 1 ≤ e.2.2 ∧ e.2.2 ≤ 9) ∧
  (¬ (0 ≤ s ∧ s < n) → HouseX CH s H E) ∧ (0 ≤ s ∧ s < n → ¬ (0 ≤ g ∧ g < n) → HouseX CH g H E) ∧ (0 ≤ s ∧ s < n → g = s → TieX CT s g H E) ∧
  (∀ s' g' : Nat, s = s' → g = g' → s' < n → g' < n → s' ≠ g' → at? (farD n (lft ts s' g') g') s' = none → LotX CL "lone" (lotOf n (farD n (lft ts s' g') s')) H E) ∧
  (∀ (s' g' c : Nat) (way : List Nat), s = s' → g = g' → s' < n → g' < n → s' ≠ g' → at? (farD n (lft ts s' g') g') s' = some c → WayTo (both (lft ts s' g')) (farD n (lft ts s' g') g') g' s' way → way.length ≤ 100 → ∀ p H', H p = none → Same H H' → PriceWay H' p c way → Q (.ref p) H')
end K
namespace L2
open PySem PySem.Spec PyProof.Rows
section
variable {X : Cx}
/-- x not in a tuple of data -/
def rNotInDT (K : PySem.W.Frag) : R2 := fun x y H Q => ∃ d ds, Dp K H x d ∧ Dp K H y (.tuple ds) ∧ SeqAt.shaped d = true ∧ SeqAt.shaped (.tuple ds) = true ∧ Q (.bl (!ds.any fun z => PyData.eqv z d)) H
theorem op_notInDT (hu : X.A.units + 65 < cLine) : OpR X (compareOp .NotIn) (rNotInDT X.K) := by
  intro pins s σ H x y v u Q I rx ry h
  obtain ⟨d, ds, hd, he, sd, se, q⟩ := h
  obtain ⟨as, r1⟩ := Dp.reads I d x v hd rx
  obtain ⟨bs, r2⟩ := Dp.reads I (.tuple ds) y u he ry
  exact SeqAt.notIn_tuple_reads r2 r1 (SeqAt.canLay_of_shaped se) (SeqAt.canLay_of_shaped sd) (room_in_shaped sd hu) ⟨.bl _, H, I, rfl, q⟩
end
end L2
namespace K
open PySem PySem.Spec PyProof.Rows L2
def pairD (i j : Int) : PyData := .tuple [.int i, .int j]
theorem pair_shaped (i j : Int) : SeqAt.shaped (pairD i j) = true := by
  unfold SeqAt.shaped pairD
  simp [PyData.canLay0, PyData.canLayAll0, PyData.depth, PyData.depthAll]
theorem pairs_shaped (i j k l : Int) : SeqAt.shaped (.tuple [pairD i j, pairD k l]) = true := by
  unfold SeqAt.shaped pairD
  simp [PyData.canLay0, PyData.canLayAll0, PyData.depth, PyData.depthAll]
theorem pair_eqv (i j k l : Int) : PyData.eqv (pairD i j) (pairD k l) = decide (i = k ∧ j = l) := by
  simp [pairD, PyData.eqv, PyData.eqvAll, Bool.beq_eq_decide_eq]
theorem dp_pair {K : PySem.W.Frag} {H : Hp} {p : Addr} {i j : Int} (h : H p = some (.tup [.int i, .int j])) : Dp K H (.ref p) (pairD i j) := .tup (SqT.of h) (.cons (.int _) (.cons (.int _) .nil))
end K

/-! refusals held as values -/
namespace L2
open PySem PySem.Spec PyProof.Rows
/-- what a class must have for isinstance of its instances -/
structure IsC (K : PySem.W.Frag) (C : Addr) : Prop where
  cl : (PySem.W.clsIn K C).isSome = true
  ha : PySem.W.findIn K (.ref C) "__class__" = some (some (.builtin "object.__class__"))
  hn : PySem.W.specialIn K (.builtin "object.__class__") "__get__" = some (some (.builtin "getset_descriptor.__get__"))
  ht : PySem.W.takesIn K (.builtin "object.__class__") = some true
  hm : PySem.W.mroIn K C (.type "object") = some true
section
variable {X : Cx}
/-- a refusal that stands: its class, its fields -/
def ExAt (H : Hp) (a C : Addr) (fs : List (Str × V)) : Prop := ∃ dx, H a = some (exo a C (some dx)) ∧ H dx = some (exd dx fs)
theorem ExAt.same {H H' : Hp} {a C : Addr} {fs : List (Str × V)} (h : ExAt H a C fs) (s : ∀ b o, H b = some o → H' b = some o) : ExAt H' a C fs := by
  obtain ⟨dx, h1, h2⟩ := h
  exact ⟨dx, s _ _ h1, s _ _ h2⟩
theorem ExAt.put {H : Hp} {a C l : Addr} {fs : List (Str × V)} {xs ys : List V} (h : ExAt H a C fs) (hl : H l = some (.lst xs)) : ExAt (upd H l (.lst ys)) a C fs := by
  obtain ⟨dx, h1, h2⟩ := h
  refine ⟨dx, ?_, ?_⟩
  · rw [upd_ne (ne_of h1 hl (fun z => by cases z))]; exact h1
  · rw [upd_ne (ne_of h2 hl (fun z => by cases z))]; exact h2
/-- C(e, ..) as a value: R tells what is asked of the arguments -/
theorem pe_valG {CX : CXT} {R : List V → Hp → VK → Prop} {x : Str} {e : Expr} {es : List Expr} {ta : TA} {p pos : Pos} {C fI : Addr} {k : Nat} {fd : FuncData} {ps : List Str} {sp : Sp} (T : OexC X.K C) (iC : PySem.W.findIn X.K (.ref C) "__init__" = some (some (.ref fI))) (tI : PySem.W.typeIn X.K (.ref fI) = some (.type "function"))
    (F1 : FnOk X.prog X.w X.K X.mg X.base CX k fI fd ps sp) (hr : Room (k + 1) X.A) (hb : Binds X.K fd ps []) (hx : Passes CX X (fun _ _ _ => False)) (hg : Gl X x) (hm : X.mg x = some (.ref C)) (ha : PA X (e :: es) ta) (hR : ∀ vs H1 Q, R vs H1 Q → vs.length ≤ 1000 ∧ ∀ a, H1 a = none → sp (.ref a :: vs) (upd H1 a (exo a C none)) (fun v H2 => v = .non ∧ Q (.ref a) H2) (fun _ _ _ => False))
    (hdb : (x == ("__debug__" : Str)) = false := by decide) (he : starEach (e :: es) X.env = (false, eval e X.env) :: starEach es X.env := by rfl) (hpl : (backTo pos (starEach es X.env)).any (·.1) = false := by rfl) :
    PE X (.Call (.Name x p) (e :: es) [] pos) (fun σ H Q => ta σ H fun vs H1 => R vs H1 Q) := by
  refine ⟨fun pins s σ H Q I h => ?_⟩
  obtain ⟨nm, q, N, bs, bm, sn, sub, ab, col, dd, k0, k1, k2, k3, k5, hC, hbm⟩ := T.cls
  refine wpAny_Call_Name_kw (ld_glob I hg hm ?_ hdb)
  refine PySem.W.callWith_K (h₀ := X.base) I.ok.mod.kin T.kC (thn (ha.run pos pins s σ H _ I h) fun us s1 ⟨vs, H1, I1, r1, rr⟩ => ⟨I1.kIn, ?_⟩) he hpl
  obtain ⟨hz, q1⟩ := hR _ _ _ rr
  show wpAny _ _ (call (.ref C) us) _ _ _
  obtain ⟨hp, g, dr, tk, os⟩ := s1
  have hsz : hp.objs.size ≤ hp.objs.size + 1 := Nat.le_succ _
  have hn : H1 (hp.objs.size + 1) = none := I1.hok.fresh hsz
  have hq := q1 (hp.objs.size + 1) hn
  have kk : ∀ b o, hp.get? b = some o → ((hp.push (PySem.W.kdv_tup us)).push (PySem.HandSPX.excO C hp.objs.size)).get? b = some o := fun b o e => Heap.get?_push_of_some _ (Heap.get?_push_of_some _ e)
  have hget : ((hp.push (PySem.W.kdv_tup us)).push (PySem.HandSPX.excO C hp.objs.size)).get? (hp.objs.size + 1) = some (PySem.HandSPX.excO C hp.objs.size) := by heap_get
  have I2 : Inv X pins σ (upd H1 (hp.objs.size + 1) (exo (hp.objs.size + 1) C none)) ⟨(hp.push (PySem.W.kdv_tup us)).push (PySem.HandSPX.excO C hp.objs.size), g, dr, tk, os⟩ :=
    I1.laid (t' := tk) (a := hp.objs.size + 1) (o := exo (hp.objs.size + 1) C none) (h' := (hp.push (PySem.W.kdv_tup us)).push (PySem.HandSPX.excO C hp.objs.size)) kk hsz (exo_ok hget)
  have r2 : Vals (V.ref (hp.objs.size + 1) :: vs) (Value.ref (hp.objs.size + 1) :: us) := .cons rfl r1
  have hl : (Value.ref (hp.objs.size + 1) :: us ++ []).length = ps.length := by
    have e := r2.length
    rw [F1.len _ _ _ _ hq] at e
    rw [List.append_nil]
    exact e.symm
  have hus : us.length ≤ sizeLine := by
    rw [← Paired.length r1, sizeLine_eq]
    omega
  have b2 := hb _ (Value.ref (hp.objs.size + 1) :: us) I2.kIn hl
  rw [List.append_nil] at b2
  refine wpAny_call (PySem.HandSPX.call_own F.excBase_ValueError (fun Y => PySem.HandSPX.refsVE_contains Y bm hbm) (I1.kIn _ _ hC) (PySem.W.looks_findIn I1.kIn iC) (fun self => PySem.W.bind_fn I1.kIn self tI) hus
    (codeAny_mono (F1.run _ X.stack _ _ ⟨Value.ref (hp.objs.size + 1) :: us, []⟩ (Value.ref (hp.objs.size + 1) :: us) _ _ (fun _ _ _ => False) (hr.make C us []) (I2.env0.make C us []) b2 r2 hq) fun r s' hq' => ?_))
  cases r with
  | error er => exact hx pins σ _ _ er s' I2 hq'
  | ok fl =>
    cases fl with
    | ret u =>
      obtain ⟨v, H2, J, rv, ev, q2⟩ := I2.after hq'
      subst ev
      exact ⟨rv, .ref (hp.objs.size + 1), H2, J, rfl, q2⟩
    | next => exact False.elim hq'
    | brk => exact False.elim hq'
    | cont => exact False.elim hq'
/-- e.f of such a value -/
def tXv (K : PySem.W.Frag) (f : Str) (te : TE) : TE := fun σ H Q => te σ H fun x H1 => ∃ (a C : Addr) (fs : List (Str × V)) (v : V), x = .ref a ∧ XfC K C ∧ PySem.W.findIn K (.ref C) f = some none ∧ ExAt H1 a C fs ∧ fs.lookup f = some v ∧ Q v H1
theorem inst_exo {P : Program} {w : World} {H : Hp} {h : Heap} {a C dx : Addr} {fs : List (Str × V)} (hok : HOk P w H h) (ha : H a = some (exo a C (some dx))) (hd : H dx = some (exd dx fs)) :
    ∃ (oe od : Obj) (mA : Str → Option Value), PySem.W.InstAt h a oe C (some od) ∧ (∀ name, PySem.W.lookIn name od = some (mA name)) ∧ ∀ f, RelO (fs.lookup f) (mA f) := by
  obtain ⟨t1, he⟩ := exo_at hok ha
  obtain ⟨mA, hns, hr⟩ := exd_at hok hd
  obtain ⟨od, ho, hl⟩ := lookIn_ns hns
  exact ⟨_, od, mA, ⟨he, rfl, rfl, ho⟩, hl, hr⟩
theorem pe_xv {e : Expr} {te : TE} {pos : Pos} {n : Str} (he : PE X e te) (hb : attributeBase e n X.env (eval e X.env) = eval e X.env := by rfl) : PE X (.Attribute e n pos) (tXv X.K n te) := by
  refine ⟨fun pins s σ H Q I h => ?_⟩
  refine attr_of hb (thn (he.run pins s σ H _ I h) fun u s1 hh => ?_)
  obtain ⟨x, H1, I1, rx, a, C, fs, v, ex, T, hno, ⟨dx, ha, hd⟩, l, q⟩ := hh
  subst ex
  obtain rfl : u = Value.ref a := rx
  obtain ⟨oe, od, mA, J, hl, hr⟩ := inst_exo I1.hok ha hd
  obtain ⟨u, hu, ru⟩ := RelO.some_of (v := v) (o := mA n) (by rw [← l]; exact hr n)
  exact HandSPX.exc_get I1.kIn J T.ga T.gg T.exC (PySem.W.findObj_own T.hdC hno rfl (by rw [hl, hu])) (handed_of ru) ⟨v, H1, I1.tok _, ru, q⟩
theorem pe_xvK {K' : PySem.W.Frag} {e : Expr} {te : TE} {pos : Pos} {n : Str} (hK : X.K = K') (he : PE X e te) (hb : attributeBase e n X.env (eval e X.env) = eval e X.env := by rfl) : PE X (.Attribute e n pos) (tXv K' n te) := hK ▸ pe_xv he hb
/-- isinstance(e, c) of such a value -/
def rIsV (K : PySem.W.Frag) : List V → Hp → VK → Prop := fun xs H Q => ∃ (a C : Addr) (fs : List (Str × V)) (c : V) (cv : Value) (b : Bool), xs = [.ref a, c] ∧ XfC K C ∧ IsC K C ∧ ExAt H a C fs ∧ (∀ u, RelV c u → u = cv) ∧ PySem.W.kitOne K (.ref C) cv = some b ∧ Q (.bl b) H
theorem call_isV : CallR X (.builtin "isinstance") (rIsV X.K) := by
  intro pins s σ H xs us Q I r h
  obtain ⟨a, C, fs, c, cv, b, rfl, T, S, ⟨dx, ha, hd⟩, hcv, e, q⟩ := h
  cases r with
  | cons rx rr =>
    cases rr with
    | cons rt rr =>
      cases rr
      cases rx
      have ec := hcv _ rt
      subst ec
      obtain ⟨oe, od, mA, J, hl, hr⟩ := inst_exo I.hok ha hd
      exact PySem.W.kia_one (PySem.W.kitx_exc S.cl T.ga T.gg T.exC S.ha S.hn S.ht S.hm) I.kIn J e (fun z => nomatch z) fun tk => ⟨.bl b, H, I.kept (t' := tk) fun _ _ z => z, rfl, q⟩
end
end L2
namespace K
open PySem PySem.Spec PyProof.Rows L2
def askStr : Hp → V → Prop := fun _ v => ∃ y : Str, v = .str y ∧ y.length ≤ 1000
def spInS (K : PySem.W.Frag) (f g wd : Str) : Sp := fun vs H Q _ => ∃ (a C : Addr) (i : Int) (y : Str), vs = [.ref a, .int i, .str y] ∧ i.natAbs.log2 < 1920 ∧ y.length ≤ 1000 ∧ OexC K C ∧ PySem.W.findIn K (.ref C) "word" = some none ∧ PySem.W.findIn K (.ref C) f = some none ∧ PySem.W.findIn K (.ref C) g = some none ∧ H a = some (exo a C none) ∧
  ∀ (dx : Addr) (H' : Hp), H dx = none → dx ≠ a → (∀ b o, H b = some o → b ≠ a → H' b = some o) → H' a = some (exo a C (some dx)) → H' dx = some (exd dx [(g, .str y), (f, .int i), ("word", .str wd)]) → Q .non H'
theorem free_upd {H : Hp} {a b : Addr} {o : HO} (h : (upd H a o) b = none) : H b = none := by
  by_cases e : b = a
  · subst e
    rw [upd_same] at h
    cases h
  · rwa [upd_ne e] at h
section
variable {X : Cx} {x : Str} {p pos : Pos} {C fI : Addr} {k : Nat} {fd : FuncData}
/-- C(e), one field -/
def rNew1 (C : Addr) (f wd : Str) (ask : Hp → V → Prop) (got : Hp → Hp → V → V → Prop) : List V → Hp → VK → Prop := fun vs H Q => ∃ v, vs = [v] ∧ ask H v ∧ ∀ (a : Addr) (v' : V) (H' : Hp), H a = none → Same H H' → ExAt H' a C [(f, v'), ("word", .str wd)] → got H H' v v' → Q (.ref a) H'
structure Mono (ask : Hp → V → Prop) (got : Hp → Hp → V → V → Prop) : Prop where
  a : ∀ H H' v, Same H H' → ask H v → ask H' v
  g : ∀ H H0 H' v v', (∀ b, H0 b = none → H b = none) → got H0 H' v v' → got H H' v v'
theorem monoI : Mono askInt gotSame := ⟨fun _ _ _ _ h => h, fun _ _ _ _ _ _ h => h⟩
theorem monoS : Mono askStr gotSame := ⟨fun _ _ _ _ h => h, fun _ _ _ _ _ _ h => h⟩
theorem monoL {K : PySem.W.Frag} : Mono (askLot K) gotLot := ⟨fun _ _ _ s ⟨l, ns, e, h, r⟩ => ⟨l, ns, e, s _ _ h, r⟩, fun _ _ _ _ _ hb ⟨l, l', xs, e1, e2, h1, h2, ne, h3⟩ => ⟨l, l', xs, e1, e2, h1, h2, ne, hb _ h3⟩⟩
theorem pe_new1 {f wd : Str} {e : Expr} {ta : TA} {ask : Hp → V → Prop} {got : Hp → Hp → V → V → Prop} (c : ExcC X.prog X.w X.K X.mg X.base k x C fI fd ["self", f] (spIn1 X.K f wd ask got)) (M : Mono ask got) (fl : PySem.W.findIn X.K (.ref C) f = some none) (hr : Room (k + 1) X.A) (hg : Gl X x) (ha : PA X [e] ta)
    (hdb : (x == ("__debug__" : Str)) = false := by decide) (he : starEach [e] X.env = (false, eval e X.env) :: starEach [] X.env := by rfl) (hpl : (backTo pos (starEach [] X.env)).any (·.1) = false := by rfl) :
    PE X (.Call (.Name x p) [e] [] pos) (fun σ H Q => ta σ H fun vs H1 => rNew1 C f wd ask got vs H1 Q) :=
  pe_valG (R := rNew1 C f wd ask got) c.t.oex c.t.iC c.t.tI c.ok hr c.b pass0 hg c.t.g ha (fun vs H1 Q ⟨v, e1, hask, q⟩ => by
    subst e1
    exact ⟨by simp, fun a na => ⟨a, C, v, rfl, M.a _ _ _ (same_upd na) hask, c.t.oex, c.t.word, fl, upd_same, fun dx v' H' ndx ne hk ha hd hgot => ⟨rfl, q a v' H' na (fun b o e => hk b o (by rw [upd_ne (ne_of_none e na)]; exact e) (ne_of_none e na)) ⟨dx, ha, hd⟩ (M.g _ _ _ _ _ (fun b => free_upd) hgot)⟩⟩⟩) hdb he hpl
/-- C(i, j), C(i, y) -/
def rNew2 (C : Addr) (f g wd : Str) : List V → Hp → VK → Prop := fun vs H Q => ∃ i j : Int, vs = [.int i, .int j] ∧ i.natAbs.log2 < 1920 ∧ j.natAbs.log2 < 1920 ∧ ∀ (a : Addr) (H' : Hp), H a = none → Same H H' → ExAt H' a C [(g, .int j), (f, .int i), ("word", .str wd)] → Q (.ref a) H'
def rNewS (C : Addr) (f g wd : Str) : List V → Hp → VK → Prop := fun vs H Q => ∃ (i : Int) (y : Str), vs = [.int i, .str y] ∧ i.natAbs.log2 < 1920 ∧ y.length ≤ 1000 ∧ ∀ (a : Addr) (H' : Hp), H a = none → Same H H' → ExAt H' a C [(g, .str y), (f, .int i), ("word", .str wd)] → Q (.ref a) H'
theorem pe_new2 {f g wd : Str} {e e2 : Expr} {ta : TA} (c : ExcC X.prog X.w X.K X.mg X.base k x C fI fd ["self", f, g] (spIn2 X.K f g wd)) (fl : PySem.W.findIn X.K (.ref C) f = some none) (gl : PySem.W.findIn X.K (.ref C) g = some none) (hr : Room (k + 1) X.A) (hg : Gl X x) (ha : PA X [e, e2] ta)
    (hdb : (x == ("__debug__" : Str)) = false := by decide) (he : starEach [e, e2] X.env = (false, eval e X.env) :: starEach [e2] X.env := by rfl) (hpl : (backTo pos (starEach [e2] X.env)).any (·.1) = false := by rfl) :
    PE X (.Call (.Name x p) [e, e2] [] pos) (fun σ H Q => ta σ H fun vs H1 => rNew2 C f g wd vs H1 Q) :=
  pe_valG (R := rNew2 C f g wd) c.t.oex c.t.iC c.t.tI c.ok hr c.b pass0 hg c.t.g ha (fun vs H1 Q ⟨i, j, e1, hi, hj, q⟩ => by
    subst e1
    exact ⟨by simp, fun a na => ⟨a, C, i, j, rfl, hi, hj, c.t.oex, c.t.word, fl, gl, upd_same, fun dx H' ndx ne hk ha hd => ⟨rfl, q a H' na (fun b o e => hk b o (by rw [upd_ne (ne_of_none e na)]; exact e) (ne_of_none e na)) ⟨dx, ha, hd⟩⟩⟩⟩) hdb he hpl
theorem pe_newS {f g wd : Str} {e e2 : Expr} {ta : TA} (c : ExcC X.prog X.w X.K X.mg X.base k x C fI fd ["self", f, g] (spInS X.K f g wd)) (fl : PySem.W.findIn X.K (.ref C) f = some none) (gl : PySem.W.findIn X.K (.ref C) g = some none) (hr : Room (k + 1) X.A) (hg : Gl X x) (ha : PA X [e, e2] ta)
    (hdb : (x == ("__debug__" : Str)) = false := by decide) (he : starEach [e, e2] X.env = (false, eval e X.env) :: starEach [e2] X.env := by rfl) (hpl : (backTo pos (starEach [e2] X.env)).any (·.1) = false := by rfl) :
    PE X (.Call (.Name x p) [e, e2] [] pos) (fun σ H Q => ta σ H fun vs H1 => rNewS C f g wd vs H1 Q) :=
  pe_valG (R := rNewS C f g wd) c.t.oex c.t.iC c.t.tI c.ok hr c.b pass0 hg c.t.g ha (fun vs H1 Q ⟨i, y, e1, hi, hj, q⟩ => by
    subst e1
    exact ⟨by simp, fun a na => ⟨a, C, i, y, rfl, hi, hj, c.t.oex, c.t.word, fl, gl, upd_same, fun dx H' ndx ne hk ha hd => ⟨rfl, q a H' na (fun b o e => hk b o (by rw [upd_ne (ne_of_none e na)]; exact e) (ne_of_none e na)) ⟨dx, ha, hd⟩⟩⟩⟩) hdb he hpl
end
/-- what all refusals have as values -/
structure ExcG (K : PySem.W.Frag) (CS C : Addr) : Prop where
  xf : XfC K C
  word : PySem.W.findIn K (.ref C) "word" = some none
  is : IsC K C
  k1 : PySem.W.kitOne K (.ref C) (.ref CS) = some true
  k2 : PySem.W.kitOne K (.ref C) (.type "ValueError") = some true
end K

/-! raise C(), a chain of three, methods that raise, sorted(dict) -/
namespace L2
open PySem PySem.Spec PyProof.Rows
section
variable {X : Cx}
theorem pmk_oex0 {CX : CXT} {x : Str} {p pos : Pos} {C fI : Addr} {k : Nat} {fd : FuncData} {ps : List Str} {sp : Sp} (T : OexC X.K C) (iC : PySem.W.findIn X.K (.ref C) "__init__" = some (some (.ref fI))) (tI : PySem.W.typeIn X.K (.ref fI) = some (.type "function"))
    (F1 : FnOk X.prog X.w X.K X.mg X.base CX k fI fd ps sp) (hr : Room (k + 1) X.A) (hb : Binds X.K fd ps []) (hx : Passes CX X (fun _ _ _ => False)) (hg : Gl X x) (hm : X.mg x = some (.ref C))
    (hdb : (x == ("__debug__" : Str)) = false := by decide) :
    PMk X (.Call (.Name x p) [] [] pos) (tMkO C sp [] tNil) := by
  intro pins s σ H1 Q I1 h
  obtain ⟨nm, q, N, bs, bm, sn, sub, ab, col, dd, k0, k1, k2, k3, k5, hC, hbm⟩ := T.cls
  refine wpAny_Call_Name_kw (ld_glob I1 hg hm ?_ hdb)
  refine PySem.W.callWith_K0 I1.kIn T.kC ?_
  obtain ⟨hz, q1⟩ := h
  show wpAny _ _ (call (.ref C) []) _ _ _
  obtain ⟨hp, g, dr, tk, os⟩ := s
  have hsz : hp.objs.size ≤ hp.objs.size + 1 := Nat.le_succ _
  have hn : H1 (hp.objs.size + 1) = none := I1.hok.fresh hsz
  have hq := q1 (hp.objs.size + 1) hn
  have kk : ∀ b o, hp.get? b = some o → ((hp.push (PySem.W.kdv_tup [])).push (PySem.HandSPX.excO C hp.objs.size)).get? b = some o := fun b o e => Heap.get?_push_of_some _ (Heap.get?_push_of_some _ e)
  have hget : ((hp.push (PySem.W.kdv_tup [])).push (PySem.HandSPX.excO C hp.objs.size)).get? (hp.objs.size + 1) = some (PySem.HandSPX.excO C hp.objs.size) := by heap_get
  have I2 : Inv X pins σ (upd H1 (hp.objs.size + 1) (exo (hp.objs.size + 1) C none)) ⟨(hp.push (PySem.W.kdv_tup [])).push (PySem.HandSPX.excO C hp.objs.size), g, dr, tk, os⟩ :=
    I1.laid (t' := tk) (a := hp.objs.size + 1) (o := exo (hp.objs.size + 1) C none) (h' := (hp.push (PySem.W.kdv_tup [])).push (PySem.HandSPX.excO C hp.objs.size)) kk hsz (exo_ok hget)
  have r2 : Vals [V.ref (hp.objs.size + 1)] [Value.ref (hp.objs.size + 1)] := .cons rfl .nil
  have hl : [Value.ref (hp.objs.size + 1)].length = ps.length := by
    have e := F1.len _ _ _ _ hq
    exact e
  have b2 := hb _ [Value.ref (hp.objs.size + 1)] I2.kIn (by rw [List.append_nil]; exact hl)
  rw [List.append_nil] at b2
  refine wpAny_call (PySem.HandSPX.call_own F.excBase_ValueError (fun Y => PySem.HandSPX.refsVE_contains Y bm hbm) (I1.kIn _ _ hC) (PySem.W.looks_findIn I1.kIn iC) (fun self => PySem.W.bind_fn I1.kIn self tI) (rest := []) (Nat.zero_le _)
    (codeAny_mono (F1.run _ X.stack _ _ ⟨[Value.ref (hp.objs.size + 1)], []⟩ [Value.ref (hp.objs.size + 1)] _ _ (fun _ _ _ => False) (hr.make C [] []) (I2.env0.make C [] []) b2 r2 hq) fun r s' hq' => ?_))
  cases r with
  | error er => exact hx pins σ _ _ er s' I2 hq'
  | ok fl =>
    cases fl with
    | ret u =>
      obtain ⟨v, H2, os2, bare2, un2, hok2, rv, ev, d, fs, ea, ed, hd1, q2⟩ := hq'
      subst ev
      obtain ⟨h2, g2, d2, t2, os'⟩ := s'
      exact ⟨rv, mk_end (raises_own T.exC T.tyC) I1 hsz kk un2 hok2 os2 bare2 ea ed hd1 q2⟩
    | next => exact False.elim hq'
    | brk => exact False.elim hq'
    | cont => exact False.elim hq'
theorem PS.nox {st : Stmt} {t : TS} (h : PS X.nox st t) : PS X st t := ⟨fun pins s σ H D I hw =>
  wpAny_mono (h.run pins s σ H D (I.wish _) hw) (fun _ _ q => q.unwish) fun _ _ z => False.elim z⟩
/-- a op b op' c op'' d -/
def tChain3 (r r' r'' : R2) (ta tb tc td : TE) : TE := fun σ H Q => ta σ H fun x H1 => tb σ H1 fun y H2 => r x y H2 fun z H3 => ∃ k, z = .bl k ∧
  (if k = true then tc σ H3 fun w' H4 => r' y w' H4 fun z2 H5 => ∃ k2, z2 = .bl k2 ∧ (if k2 = true then td σ H5 fun w2 H6 => r'' w' w2 H6 Q else Q (.bl false) H5) else Q (.bl false) H3)
theorem pe_chain3 {a b c d : Expr} {pos : Pos} {ta tb tc td : TE} {op op' op'' : CmpOp} {r r' r'' : R2} (ho : OpR X (compareOp op) r) (ho' : OpR X (compareOp op') r') (ho'' : OpR X (compareOp op'') r'') (ha : PE X a ta) (hb : PE X b tb) (hc : PE X c tc) (hd : PE X d td)
    (hm : lastMarks [op, op', op''] [b, c, d] = false := by with_unfolding_all rfl) : PE X (.Compare a [op, op', op''] [b, c, d] pos) (tChain3 r r' r'' ta tb tc td) := by
  refine ⟨fun pins s σ H Q I h => ?_⟩
  refine Compare_chain (thn (ha.run pins s σ H _ I h) fun v s1 ⟨x, H1, I1, r1, q1⟩ => chain_link (thn (hb.run pins s1 σ H1 _ I1 q1) fun u s2 ⟨y, H2, I2, r2, q2⟩ =>
    thn (ho pins s2 σ H2 x y v u _ I2 r1 r2 q2) fun dd s3 ⟨z, H3, I3, r3, k, e, q3⟩ => ?_)) hm
  subst e
  cases r3
  refine wpAny_truthy_bool ?_
  cases k with
  | false => exact ite_ff ⟨.bl false, H3, I3, rfl, q3⟩
  | true =>
    refine ite_tt (chain_link (thn (hc.run pins s3 σ H3 _ I3 q3) fun w' s4 ⟨z', H4, I4, r4, q4⟩ => thn (ho' pins s4 σ H4 y z' u w' _ I4 r2 r4 q4) fun d' s5 ⟨z2, H5, I5, r5, k2, e2, q5⟩ => ?_))
    subst e2
    cases r5
    refine wpAny_truthy_bool ?_
    cases k2 with
    | false => exact ite_ff ⟨.bl false, H5, I5, rfl, q5⟩
    | true => exact ite_tt (chain_last (thn (hd.run pins s5 σ H5 _ I5 q5) fun w2 s6 ⟨z3, H6, I6, r6, q6⟩ => ho'' pins s6 σ H6 z' z3 w' w2 Q I6 r4 r6 q6))
/-- o.m(e, ..), o.m() that may raise, in a try -/
def tMethX (C : Addr) (m : Str) (sp : Sp) (E : St → XK) (ta : TE) (t : TA) : TE := fun σ H Q => ta σ H fun x H1 => ∃ a dx fs, x = .ref a ∧ H1 a = some (.ins C dx fs) ∧ fs.lookup m = none ∧ t σ H1 fun vs H2 => sp (x :: vs) H2 Q (E σ)
variable {CX : CXT} {k : Nat} {f C : Addr} {fd : FuncData} {ps : List Str} {sp : Sp} {E : St → XK} {m : Str} {pos apos : Pos} {e o : Expr} {es : List Expr} {ta : TE} {t : TA}
theorem pe_methX {pl : Sem Bool} (he : PE X o ta) (c : Cls X.K C) (hm : Meth X.K C m f) (F : FnOk X.prog X.w X.K X.mg X.base CX k f fd ps sp) (hr : Room k X.A) (hb : Binds X.K fd ps []) (hx : ∀ σ, PassesAt CX X σ (E σ)) (ha : PA X (e :: es) t)
    (hst : starEach (e :: es) X.env = (false, eval e X.env) :: starEach es X.env := by rfl) (hpl : (backTo pos (starEach es X.env)).any (·.1) = false := by rfl)
    (ht : eval (.Call (.Attribute o m apos) (e :: es) [] pos) X.env = (do
      let ov ← eval o X.env
      standAt apos.atName
      let (f, first) ← holding [ov] (getMethod ov m pl)
      callWith pos f first (backTo pos (starEach (e :: es) X.env)) (backToKw pos (keywordEach [] X.env))) := by rfl) :
    PE X (.Call (.Attribute o m apos) (e :: es) [] pos) (tMethX C m sp E ta t) := by
  refine ⟨fun pins s σ H Q I h => ?_⟩
  refine PySem.W.methodCall_KW (pl := pl) (thn (he.run pins s σ H _ I h) fun u s1 ⟨x, H1, I1, rx, a, dx, fs, ex, ea, l, q⟩ => ?_) ht
  subst ex
  obtain rfl : u = Value.ref a := rx
  refine getmeth_ok I1 ea c hm l ?_
  refine PySem.W.callWith_K (first := [.ref a]) (h₀ := X.base) I.ok.mod.kin hm.kp (thn (ha.run pos pins s1 σ H1 _ I1 q) fun us s2 ⟨vs, H2, I2, r, q2⟩ => ⟨I2.kIn, ?_⟩) hst hpl
  exact run_fnS (us := .ref a :: us) (vs := .ref a :: vs) F hr hb (hx σ) I2 (.cons rfl r) q2
theorem pe_methX0 {pl : Sem Bool} (he : PE X o ta) (c : Cls X.K C) (hm : Meth X.K C m f) (F : FnOk X.prog X.w X.K X.mg X.base CX k f fd ps sp) (hr : Room k X.A) (hb : Binds X.K fd ps []) (hx : ∀ σ, PassesAt CX X σ (E σ))
    (ht : eval (.Call (.Attribute o m apos) [] [] pos) X.env = (do
      let ov ← eval o X.env
      standAt apos.atName
      let (f, first) ← holding [ov] (getMethod ov m pl)
      callWith pos f first (backTo pos (starEach [] X.env)) (backToKw pos (keywordEach [] X.env))) := by rfl) :
    PE X (.Call (.Attribute o m apos) [] [] pos) (tMethX C m sp E ta tNil) := by
  refine ⟨fun pins s σ H Q I h => ?_⟩
  refine PySem.W.methodCall_KW (pl := pl) (thn (he.run pins s σ H _ I h) fun u s1 ⟨x, H1, I1, rx, a, dx, fs, ex, ea, l, q⟩ => ?_) ht
  subst ex
  obtain rfl : u = Value.ref a := rx
  refine getmeth_ok I1 ea c hm l ?_
  exact PySem.W.callWith_K0 (first := [.ref a]) I1.kIn hm.kp (run_fnS (us := [.ref a]) (vs := [.ref a]) F hr hb (hx σ) I1 (.cons rfl .nil) q)
/-- sorted(d), d a dict with int keys, of any length -/
def rSortedDI : List V → Hp → VK → Prop := fun xs H Q => ∃ (a : Addr) (kvs : List (Key × V)) (ks : List Int), xs = [.ref a] ∧ Rd H a (.dK kvs) ∧ kvs.map (·.1) = ks.map Sum.inl ∧ ks.length ≤ sizeLine ∧
    ∀ (ys : List Int) (p : Addr), ys.Perm ks → ys.Pairwise (· ≤ ·) → H p = none → Q (.ref p) (upd H p (.lst (ys.map V.int)))
theorem call_sortedDA (hcalm : X.calm = true) : CallR X (.builtin "sorted") rSortedDI := by
  intro pins s σ H xs us Q I r q
  obtain ⟨a, kvs, ks, ex, hd, hks, h64, q⟩ := q
  subst ex
  obtain ⟨u, eu, rx⟩ := vals1 r
  subst eu
  cases rx
  obtain ⟨z, lo, vs, rel, dd⟩ := dk_rd I.hok hd
  obtain ⟨ep, hat⟩ := dd.dictAt
  have hkeys : vs.map (·.1) = ks.map Sum.inl := rel.keys.symm.trans hks
  have hl : vs.length = ks.length := by
    have e := congrArg List.length hkeys
    rw [List.length_map, List.length_map] at e
    exact e
  have h16 : vs.length ≤ sizeLine := by rw [hl]; exact h64
  refine Calls.call_function_entry PyProof.Rows.kind_sorted PyProof.Rows.plain_sorted PyProof.Rows.entry_sorted (PyProof.Rows.args_sorted1 _) ?_
  unfold Builtin.«sorted»
  refine wpAny_bind (m := checkCount "sorted" 1 1 _) (wpAny_pure ?_)
  refine wpAny_bind (PySem.W.kdu_collect (A := X.A.in1) (PySem.W.kdl_dict (knd := mixKind X.prog X.w) (kvs := vs) (ep := ep) lo) (I.ok.hd hcalm) hat h16 fun h' tk acc hk hacc => ?_)
  have hal : acc.toList.length = ks.length := by rw [Array.length_toList, hacc.1, hl]
  have hS : IntsAre acc.toList ks := ints_each hal fun j v e => by
    obtain ⟨k, x, e1, e2⟩ := hacc.2 j v (by rw [← Array.getElem?_toList]; exact e)
    have e3 : (vs.map (·.1))[j]? = some k := by rw [List.getElem?_map, e1]; rfl
    rw [hkeys, List.getElem?_map] at e3
    cases e4 : ks[j]? with
    | none => rw [e4] at e3; cases e3
    | some y =>
      rw [e4] at e3
      have e5 : Sum.inl y = k := Option.some.inj e3
      subst e5
      rcases keyIs_shape (show keyIs (Sum.inl y) v = true from e2) with ⟨i, t, ek, ev⟩ | ⟨z, t, ek, ev⟩
      · cases ek
        exact ⟨y, t, rfl, ev⟩
      · cases ek
  have I1 : Inv X pins σ H { s with heap := h', toks := tk } := I.kept hk
  refine wpAny_bind (wpAny_newList ?_ (by rw [hal]; exact h64))
  have hoL : (h'.push (seqObj "list" acc.toList.toArray 0)).get? h'.objs.size = some (seqObj "list" acc.toList.toArray 0) := Heap.get?_push_size _ rfl
  show wpAny _ _ _ _ _ { s with heap := h'.push (seqObj "list" acc.toList.toArray 0), toks := tk }
  refine wpAny_bind (wpAny_holding (wpAny_call_entry PyProof.Rows.slot_list_sort ⟨_, hoL, rfl⟩ PyProof.Rows.entry_list_sort
    (SrtO.list_sort_ord (s := { s with heap := h'.push (seqObj "list" acc.toList.toArray 0), toks := tk }) SrtO.swo_int hoL (by rw [hal]; exact h64) (fun h2 => SrtO.ints_sortable hS h2) fun out g1 g2 => ⟨_, rfl, ?_⟩) (PyProof.Rows.args_list_sort _)))
  obtain ⟨k1, k2, k3⟩ := SrtO.ints_out hS g1 g2
  obtain ⟨e', he'⟩ := PyProof.Rows.sortedHeap_at (vs := acc.toList) (out := out.toArray) hoL
  have hlen : ((out.map SrtO.iv).map V.int).length ≤ sizeLine := by
    rw [List.length_map, k2.length_eq]
    exact h64
  refine wpAny_pure ⟨_, rfl, .ref h'.objs.size, upd H h'.objs.size (.lst ((out.map SrtO.iv).map V.int)), I1.laid (t' := tk) (fun b u e => ?_) (Nat.le_refl _)
    (show ObjOk X.prog X.w _ _ _ (.lst ((out.map SrtO.iv).map V.int)) from ⟨hlen, out, e', vals_of_ints k1, he'⟩), rfl, q _ _ k2 k3 (I1.hok.fresh (Nat.le_refl _))⟩
  have hb : b < h'.objs.size := Heap.lt_size e
  rw [PyProof.Rows.sortedHeap_old (Nat.ne_of_lt hb) (by rw [size_push']; exact Nat.lt_succ_of_lt hb)]
  exact Heap.get?_push_of_some _ e
end
end L2

/-! the numbers of one house: what stands, what is promised -/
namespace K
open PySem PySem.Spec PyProof.Rows L2
def heldK (us : List Int) : List (Key × V) := us.map fun i => (Sum.inl i, V.bl true)
theorem held_keys (us : List Int) : (heldK us).map (·.1) = us.map Sum.inl := by
  unfold heldK
  rw [List.map_map]
  rfl
theorem held_val (i : Int) : ∀ us : List Int, valV (heldK us) (Sum.inl i) = if i ∈ us then some (.bl true) else none
  | [] => rfl
  | j :: us => by
    by_cases e : j = i
    · subst e
      rw [if_pos List.mem_cons_self]
      exact valV_pos rfl
    · have e2 : ¬ (Sum.inl j : Key) = Sum.inl i := fun z => e (Sum.inl.inj z)
      rw [show heldK (j :: us) = (Sum.inl j, V.bl true) :: heldK us from rfl, valV_neg e2, held_val i us]
      by_cases h : i ∈ us
      · rw [if_pos h, if_pos (List.mem_cons_of_mem _ h)]
      · rw [if_neg h, if_neg (fun z => by rcases List.mem_cons.mp z with q | q; exact e q.symm; exact h q)]
theorem held_in {i : Int} {us : List Int} (h : i ∈ us) : valV (heldK us) (Sum.inl i) = some (.bl true) := by rw [held_val, if_pos h]
theorem held_no {i : Int} {us : List Int} (h : ¬ i ∈ us) : valV (heldK us) (Sum.inl i) = none := by rw [held_val, if_neg h]
theorem held_put {i : Int} {us : List Int} (h : ¬ i ∈ us) : putK (heldK us) (Sum.inl i) (.bl true) = heldK (us ++ [i]) := by
  rw [putK_new _ (held_no h)]
  unfold heldK
  rw [List.map_append]
  rfl
theorem held_drop (i : Int) : ∀ us : List Int, us.Nodup → dropK (heldK us) (Sum.inl i) = heldK (us.erase i)
  | [], _ => rfl
  | j :: us, nd => by
    obtain ⟨n1, n2⟩ := List.nodup_cons.mp nd
    by_cases e : j = i
    · subst e
      rw [List.erase_cons_head, show heldK (j :: us) = (Sum.inl j, V.bl true) :: heldK us from rfl, dropK_pos rfl, dropK_no]
      rw [held_keys]
      intro z
      obtain ⟨x, hx, ex⟩ := List.mem_map.mp z
      cases ex
      exact n1 hx
    · have e2 : ¬ (Sum.inl j : Key) = Sum.inl i := fun z => e (Sum.inl.inj z)
      have e3 : (j == i) = false := by simpa using e
      rw [List.erase_cons_tail (by rw [e3]; exact Bool.false_ne_true), show heldK (j :: us) = (Sum.inl j, V.bl true) :: heldK us from rfl, dropK_neg e2, held_drop i us n2]
      rfl
/-- the numbers from x on, k of them, that are not among us -/
def spare (us : List Int) : Nat → Int → List Int
  | 0, _ => []
  | k + 1, x => if x ∈ us then spare us k (x + 1) else x :: spare us k (x + 1)
theorem spare_s (us : List Int) (k : Nat) (x : Int) : spare us (k + 1) x = if x ∈ us then spare us k (x + 1) else x :: spare us k (x + 1) := rfl
theorem spare_add (us : List Int) : ∀ (i j : Nat) (x : Int), spare us (i + j) x = spare us i x ++ spare us j (x + i)
  | 0, j, x => by simp [spare]
  | i + 1, j, x => by
    have e : x + 1 + (i : Int) = x + ((i + 1 : Nat) : Int) := by omega
    rw [show i + 1 + j = (i + j) + 1 by omega, spare_s, spare_s]
    by_cases h : x ∈ us
    · rw [if_pos h, if_pos h, spare_add us i j (x + 1), e]
    · rw [if_neg h, if_neg h, spare_add us i j (x + 1), e, List.cons_append]
theorem spare_succ (us : List Int) (i : Nat) (x : Int) : spare us (i + 1) x = spare us i x ++ (if x + i ∈ us then [] else [x + i]) := by
  rw [spare_add us i 1 x]
  rfl
theorem spare_len (us : List Int) : ∀ (i : Nat) (x : Int), (spare us i x).length ≤ i
  | 0, x => by simp [spare]
  | i + 1, x => by
    unfold spare
    have := spare_len us i (x + 1)
    by_cases h : x ∈ us
    · rw [if_pos h]; omega
    · rw [if_neg h, List.length_cons]; omega
theorem spare_mem (us : List Int) : ∀ (i : Nat) (x y : Int), y ∈ spare us i x → ¬ y ∈ us ∧ x ≤ y ∧ y < x + i
  | 0, x, y, h => by simp [spare] at h
  | i + 1, x, y, h => by
    unfold spare at h
    by_cases c : x ∈ us
    · rw [if_pos c] at h
      have := spare_mem us i (x + 1) y h
      exact ⟨this.1, by omega, by omega⟩
    · rw [if_neg c] at h
      rcases List.mem_cons.mp h with q | q
      · subst q; exact ⟨c, by omega, by omega⟩
      · have := spare_mem us i (x + 1) y q
        exact ⟨this.1, by omega, by omega⟩
/-- how many numbers a range has -/
def wide (lo hi : Int) : Nat := (hi + 1 - lo).toNat
def goodR (lo hi : Int) : Prop := 1 ≤ lo ∧ lo ≤ hi ∧ hi ≤ lo + 63 ∧ hi ≤ 9999
def numF (lo hi : Int) (d : Addr) : List (Str × V) := [("low", .int lo), ("high", .int hi), ("held", .ref d)]
def NumAt (H : Hp) (C x dx d : Addr) (lo hi : Int) (us : List Int) : Prop := H x = some (.ins C dx (numF lo hi d)) ∧ H d = some (.dK (heldK us))
theorem NumAt.same {H H' : Hp} {C x dx d : Addr} {lo hi : Int} {us : List Int} (h : NumAt H C x dx d lo hi us) (s : Same H H') : NumAt H' C x dx d lo hi us := ⟨s _ _ h.1, s _ _ h.2⟩
/-- a bare refusal in the air -/
def BareX (C : Addr) (wd : Str) (H : Hp) (E : XK) : Prop := ∀ (d : Addr) (H' : Hp), H d = none → Same H H' → H' d = some (.xd [("word", .str wd)]) → E (.ref C) (some d) H'
def TakenX (C : Addr) (i : Int) (H : Hp) (E : XK) : Prop := ∀ (d : Addr) (H' : Hp), H d = none → Same H H' → H' d = some (.xd [("number", .int i), ("word", .str "nottaken")]) → E (.ref C) (some d) H'
/-- C(): no field but the word -/
def spIn0 (K : PySem.W.Frag) (wd : Str) : Sp := fun vs H Q _ => ∃ (a C : Addr), vs = [.ref a] ∧ OexC K C ∧ PySem.W.findIn K (.ref C) "word" = some none ∧ H a = some (exo a C none) ∧
  ∀ (dx : Addr) (H' : Hp), H dx = none → dx ≠ a → (∀ b o, H b = some o → b ≠ a → H' b = some o) → H' a = some (exo a C (some dx)) → H' dx = some (exd dx [("word", .str wd)]) → Q .non H'
def spIsRange : Sp := fun vs H Q _ => ∃ lo hi : Int, vs = [.int lo, .int hi] ∧ ∀ b : Bool, (b = true ↔ goodR lo hi) → Q (.bl b) H
def spNumI (C : Addr) : Sp := fun vs H Q _ => ∃ (x dx : Addr) (lo hi : Int), vs = [.ref x, .int lo, .int hi] ∧ H x = some (.ins C dx []) ∧ goodR lo hi ∧
  ∀ (d : Addr) (H' : Hp), H d = none → (∀ b o, H b = some o → b ≠ x → H' b = some o) → NumAt H' C x dx d lo hi [] → Q .non H'
def spNTake (C CN : Addr) : Sp := fun vs H Q E => ∃ (x dx d : Addr) (lo hi : Int) (us : List Int), vs = [.ref x] ∧ NumAt H C x dx d lo hi us ∧ goodR lo hi ∧ us.length ≤ 1000 ∧
  (spare us (wide lo hi) lo = [] → BareX CN "nonumber" H E) ∧ (∀ i r, spare us (wide lo hi) lo = i :: r → Q (.int i) (upd H d (.dK (heldK (us ++ [i])))))
def spNGive (C CT : Addr) : Sp := fun vs H Q E => ∃ (x dx d : Addr) (lo hi i : Int) (us : List Int), vs = [.ref x, .int i] ∧ NumAt H C x dx d lo hi us ∧ us.Nodup ∧ i.natAbs.log2 < 1920 ∧
  (¬ i ∈ us → TakenX CT i H E) ∧ (i ∈ us → Q .non (upd H d (.dK (heldK (us.erase i)))))
def spNTaken (C : Addr) : Sp := fun vs H Q _ => ∃ (x dx d : Addr) (lo hi : Int) (us : List Int), vs = [.ref x] ∧ NumAt H C x dx d lo hi us ∧ us.length ≤ 1000 ∧
  ∀ (ys : List Int) (p : Addr), ys.Perm us → ys.Pairwise (· ≤ ·) → H p = none → Q (.ref p) (upd H p (.lst (ys.map V.int)))
def spNLeft (C : Addr) : Sp := fun vs H Q _ => ∃ (x dx d : Addr) (lo hi : Int) (us : List Int), vs = [.ref x] ∧ NumAt H C x dx d lo hi us ∧ Q (.int (hi - lo + 1 - us.length)) H
def spNHas (C : Addr) : Sp := fun vs H Q _ => ∃ (x dx d : Addr) (lo hi i : Int) (us : List Int), vs = [.ref x, .int i] ∧ NumAt H C x dx d lo hi us ∧ Q (.bl (decide (lo ≤ i ∧ i ≤ hi))) H
/-- what the top has written of the class -/
structure NumT (K : PySem.W.Frag) (mg : Str → Option Value) (C fI : Addr) : Prop where
  g : mg "Numbers" = some (.ref C)
  cl : Cls K C
  made : Mk K C fI
  nl : NoAttr K C "low"
  nh : NoAttr K C "high"
  nd : NoAttr K C "held"
/-- two increasing lists of the same numbers are one -/
theorem sorted_one {xs ys : List Int} (p : xs.Perm ys) (hx : xs.Pairwise (· ≤ ·)) (hy : ys.Pairwise (· ≤ ·)) : xs = ys :=
  p.eq_of_pairwise (fun a b _ _ h1 h2 => Int.le_antisymm h1 h2) hx hy
end K

/-! _law_why(lambda: ..): what the clauses wish, whatever the frame holds -/
namespace L2
open PySem PySem.Spec PyProof.Rows
/-- e.f of the caught exception, whatever its class is -/
def tXg (K : PySem.W.Frag) (a : Addr) (cls : Value) (d : Option Addr) (f : Str) (te : TE) : TE := fun σ H Q => ∃ C, XfC K C ∧ PySem.W.findIn K (.ref C) f = some none ∧ tXf a cls d C f te σ H Q
theorem pe_xg {X : Cx} {a : Addr} {oe : Obj} {cls : Value} {d : Option Addr} {pn : List (Addr × Obj)} {e : Expr} {te : TE} {pos : Pos} {n : Str} (hz : Zc cls d oe) (hf : ∃ vs, oe.data = .fields vs) (he : PE (X.suite a ((a, oe) :: pn)) e te) (hb : attributeBase e n X.env (eval e X.env) = eval e X.env := by rfl) :
    PE (X.suite a ((a, oe) :: pn)) (.Attribute e n pos) (tXg X.K a cls d n te) :=
  ⟨fun pins s σ H Q I ⟨C, T, hno, h⟩ => (pe_xf T hno hz hf he hb).run pins s σ H Q I h⟩
/-- a block's reading asked only where the frame has n slots: it always has -/
def tLen (n : Nat) (t : TS) : TS := fun D σ H => σ.length = n → t D σ H
theorem pss_len {X : Cx} {b : List Stmt} {t : TS} {n : Nat} (h : PSs X b t) (hn : X.N.length = n) : PSs X b (tLen n t) := ⟨fun pins s σ H D I k => h.run pins s σ H D I (k (I.len.trans hn))⟩
end L2

/-! a list comprehension whose element may let the exception of a call out -/
namespace SwX
open PySem PySem.Spec PyProof.Rows L2
/-- what the element of a block may let out -/
def Out (X : Cx) (E : XK) (B : Cx) (u : Value) (z : Shared) : Prop := ∃ pi τ G z0, Inv B pi τ G z0 ∧ CX X.prog X.w X.stack G z0 E u z
abbrev bx (X : Cx) (E : XK) (s : Shared) (H : Hp) (scope : Scope) (ce : Env) (fp : List Addr) : Cx := (X.blk s H scope ce fp).wish (Out X E (X.blk s H scope ce fp))
theorem pass_bx {X : Cx} {E : XK} {s : Shared} {H : Hp} {scope : Scope} {ce : Env} {fp : List Addr} : Passes (L2.CX X.prog X.w) (bx X E s H scope ce fp) E :=
  fun pi τ G z0 u z I c => ⟨pi, τ, G, z0, I.unwish, c⟩
theorem cx_more {P : Program} {w : World} {l : List Env} {G : Hp} {z0 z : Shared} {E E' : XK} {u : Value} {m : Str → Option Value} {C : Addr} (hC : G C = none) (hn : z0.heap.Ns C m) (nf : C ∉ frs l) (h : ∀ cls d G', E cls d G' → G' C = none → E' cls d G')
    (c : CX P w l G z0 E u z) : CX P w l G z0 E' u z ∧ z.heap.Ns C m := by
  obtain ⟨a, B, G', cls, d, eu, fl, hok, ub, na, os, ag, q⟩ := c
  obtain ⟨o, es, ep, ho, r⟩ := hn
  exact ⟨⟨a, B, G', cls, d, eu, fl, hok, ub, na, os, ag, h _ _ _ q (ub.free C o ho hC)⟩, o, es, ep, fl.1 C o (ub.keep C o ho hC nf), r⟩
section
variable {X : Cx}
/-- out of the block, in the frame's own hand -/
theorem out_of {W : WX} {E : XK} {pi : List (Addr × Obj)} {σ : L2.St} {G : Hp} {z0 z : Shared} {u : Value} {ce : Env} {m : Str → Option Value} (tk : Takes X W) (hs : X.stack = X.env :: X.outer) (hf : X.env.frame = some X.env.locals) (cf : ce.frame = X.env.frame)
    (hW : ∀ cls d σ H, E cls d H → W cls d σ H) (I : Inv X pi σ G z0) (nC : G ce.locals = none) (hn : z0.heap.Ns ce.locals m) (c1 : ce.locals ≠ X.env.locals) (c2 : ce.locals ∉ frs X.stack) (c3 : ce.locals ∈ X.ex ∨ X.s_0.heap.objs.size ≤ ce.locals)
    (c4 : ∀ x c, X.env.cells.lookup x = some c → c ≠ ce.locals) (c5 : ∀ p ∈ X.pn, p.1 ≠ ce.locals) (c : CX X.prog X.w X.stack G z0 E u z) : notedBy (model X.prog X.w) X.A ce (CompFails (model X.prog X.w) X.A X.xe ce) u z := by
  obtain ⟨cc, hnz⟩ := cx_more (E' := fun cls d G' => E cls d G' ∧ G' ce.locals = none) nC hn c2 (fun _ _ _ q1 q2 => ⟨q1, q2⟩) c
  obtain ⟨a, B, sI, pn2, τ, H, cls, d, eu, J, nb, up, sky, na, os, ag, ⟨hE, hC⟩⟩ := XE.of_call (W := fun cls d _ H => E cls d H ∧ H ce.locals = none) I (fun _ _ _ q => q) cc
  subst eu
  have J : Inv X [] τ H sI := J.unpinned (pins := []) (pl := pn2)
  have hfr : X.A.frames = some (X.env :: X.outer) := by rw [J.ok.frames, hs]
  rw [hs] at sky
  have onward : ∀ h1, HandSPX.HeldZ B (X.env :: X.outer) a (Zc cls d) X.env.locals h1 → z.heap.UpToSlots h1 → CompFails (model X.prog X.w) X.A X.xe ce (.ref a) { z with heap := h1 } := by
    intro h1 hh u1
    have n1 : h1.Ns ce.locals m := hnz.upToSlots u1
    refine ⟨m, n1, fun h2 m2 n2 sb => ?_⟩
    obtain ⟨g1, g2, g3, oe, vs, T, oT, ts, e1, e2, e3, e4, e5, e6, e7, e8, e9⟩ := hh
    obtain ⟨oC, es, ep, hoC, hdC, _⟩ := n1
    have noC : ∀ {b : Addr} {o : Obj} {vs : Array Value}, h1.get? b = some o → o.data = .fields vs → b ≠ ce.locals := fun {b o vs} p q r => by
      rw [r, hoC] at p
      cases p
      rw [hdC] at q
      cases q
    have hid : ∀ {h : Heap} {b : Addr}, h.get? b = none → (PySem.W.hideAll h [ce.locals]).get? b = none := fun {h b} p => by
      cases q : (PySem.W.hideAll h [ce.locals]).get? b with
      | none => rfl
      | some o => rw [PySem.W.of_hideAll _ q] at p; cases p
    have hidC : ∀ {h : Heap} {b : Addr} {o : Obj}, (PySem.W.hideAll h [ce.locals]).get? b = some o → b ≠ ce.locals := fun {h b o} p q => by
      rw [q, PySem.W.hideAll_none _ (by simp)] at p
      cases p
    have st2 : (PySem.W.hideAll B [ce.locals]).StaysIn h2 := fun b o p => (sb.2 b (hidC p)).trans (g1 b o (PySem.W.of_hideAll _ p))
    have ff2 : h2.FunFrames (PySem.W.hideAll B [ce.locals]) (X.env :: X.outer) := funFrames_none (Heap.FunFrames.sameBut sb n2 g3) fun b hb => hid (g3.mem hb).1
    have e1' := (sb.2 a (noC e1 e3)).trans e1
    have e7' := (sb.2 T (noC e7 e8)).trans e7
    have tr2 : HandSPX.TracedZ h2 (PySem.W.hideAll B [ce.locals]) a (Zc cls d) (rawInt X.env.locals) := ⟨oe, vs, T, oT, ts, e1', e2, e3, e4, hid e5, e6, e7', e8, e9⟩
    have hd2 : HandSPX.HeldZ (PySem.W.hideAll B [ce.locals]) (X.env :: X.outer) a (Zc cls d) X.env.locals h2 := ⟨st2, hid g2, ff2, tr2⟩
    unfold PySem.passOn
    refine wpAny_bind (wpAny_field e1' e3 e4 ?_)
    rw [if_neg (by simp), cf, hf]
    refine wpAny_bind (HandSPX.setFlight_onZ hd2 fun h3 hd3 u3 => wpAny_throw ?_)
    refine tk _ _ ⟨a, PySem.W.hideAll B [ce.locals], { sI with heap := PySem.W.hideAll sI.heap [ce.locals] }, [], τ, H, cls, d, rfl, ?_, ?_, ?_, ?_, na, os, ag, hW _ _ _ _ hE⟩
    · exact J.turned (t' := sI.toks) (fun b o hb e => PySem.W.hideAll_get _ e (by simp [hb])) hC c1 c3 c4 (fun p hp => c5 p (by simpa using hp))
    · intro b o e hb
      exact PySem.W.hideAll_get _ (nb b o (PySem.W.of_hideAll _ e) hb) (by simp [hidC e])
    · intro b o e hnf
      obtain ⟨s1, k1⟩ := up b o (PySem.W.of_hideAll _ e) hnf
      obtain ⟨s2, k2⟩ := u1 b _ k1 hnf
      obtain ⟨s3, k3⟩ := u3 b _ ((sb.2 b (hidC e)).trans k2) hnf
      exact ⟨s3, k3⟩
    · rw [hs]
      exact .inr (.inr hd3)
  show wpAny _ _ (noteFrame (.ref a) ce) _ _ z
  rw [noteFrame_env _ cf]
  rcases sky with ⟨hB, hn0, hl, oe, vs, he, hz, hd, h1⟩ | fl | hh
  · exact HandSPX.look_newZ Zc.steady hfr hl hf he hB hn0 hd h1 hz onward
  · exact HandSPX.looks_onZ Zc.steady hfr hf fl onward
  · exact HandSPX.againZ hf hh.2.2.2 (onward z.heap hh (Heap.UpToSlots.refl _))
theorem more {α : Type} {t : Sem α} {Q Q' : α → Shared → Prop} {M : Model} {A : Around} {E E' : Value → Shared → Prop} {s : Shared} (h : wpAny M A t Q E s) (hQ : ∀ a s, Q a s → Q' a s) (hE : ∀ a s, E a s → E' a s) : wpAny M A t Q' E' s := wpAny_mono h hQ hE
/-- [elt for tg in iter if ifs] as a value, its element a call's exception may leave -/
theorem pe_lcX {elt tg iter : Expr} {ifs : List Expr} {scope : Scope} {own : List (Str × Nat)} {pos : Pos} {wi : TI} {g : TG} {tt : TT} {te : TE} {W : WX} {E : XK} (tk : Takes X W) (hW : ∀ cls d σ H, E cls d H → W cls d σ H) (hst : X.stack = X.env :: X.outer) (hf : X.env.frame = some X.env.locals)
    (hc : X.calm = true) (hN : X.N.Nodup) (hi : PI X tg iter wi) (ok : BlkOk X.N X.env.scope scope own)
    (hg : ∀ (s : Shared) (H : Hp) (C : Addr) (cl : List (Str × Addr)) (fp : List Addr), PG (bx X E s H scope (compEnvC scope cl C X.env) fp) tg g)
    (ht : ∀ (s : Shared) (H : Hp) (C : Addr) (cl : List (Str × Addr)) (fp : List Addr), PTs (bx X E s H scope (compEnvC scope cl C X.env) fp) ifs tt)
    (he : ∀ (s : Shared) (H : Hp) (C : Addr) (cl : List (Str × Addr)) (fp : List Addr), PE (bx X E s H scope (compEnvC scope cl C X.env) fp) elt te) (hs : ∀ x, foldedSetIterable iter X.env x = pure x := by intro _; rfl) :
    PE X (.ListComp elt [⟨tg, iter, ifs, 0⟩] scope pos) (tLc wi g tt te (own.map (·.2))) := by
  refine ⟨fun pins s σ H Q I h => ?_⟩
  rw [eval_ListComp]
  have cells : ∀ y ∈ scope.names, y.2 = .free → ∃ c, X.env.cells.lookup y.1 = some c := fun y hy e => (ok.free y hy e).elim (fun k => I.ok.has _ (.inl k)) (fun k => I.ok.has _ (.inr k))
  refine comprehension_at (use := none) rfl hs (closure_ok cells) ok.kind (fun y hy e => by rw [ok.uniq y hy, e]) (thn (hi.run pins s σ H _ I h) fun xv s1 hx => thn hx fun itv s2 hit => ?_)
  obtain ⟨it, fp, tn, J, H2, eit, I2, T, st2, f2, q⟩ := hit
  subst eit
  refine wpAny_newObj_type (newEnv_comp ?_) (by show 0 ≤ sizeLine; decide)
  generalize hD : s2.heap.objs.size = D
  obtain ⟨Wt, ⟨m0, w0⟩, turn⟩ := q D (I2.hok.fresh (Nat.le_of_eq hD))
  generalize es3 : ({ s2 with heap := s2.heap.push { cls := .type "list", data := .seq ([] : List Value).toArray } } : Shared) = s3
  have hp3 : s3.heap = s2.heap.push { cls := .type "list", data := .seq ([] : List Value).toArray } := by rw [← es3]
  have I3 : Inv X pins σ (upd H2 D (.lst [])) s3 := by
    rw [← es3]
    exact I2.laid (t' := s2.toks) (fun b o e => Heap.get?_push_of_some _ e) (Nat.le_of_eq hD) ⟨Nat.zero_le _, [], 0, .nil, by rw [← hD]; exact Heap.get?_push_size _ rfl⟩
  have small : ∀ b ∈ fp, b < s2.heap.objs.size := fun b hb => let ⟨o, e, _⟩ := T.obj _ _ st2 b hb; Heap.lt_size e
  have f3 : ∀ b ∈ fp, FpOk X pins (upd H2 D (.lst [])) b ∧ b < s3.heap.objs.size := fun b hb => by
    have lt := small b hb
    refine ⟨⟨?_, (f2 b hb).2⟩, by rw [hp3, Heap.size_push]; exact Nat.lt_succ_of_lt lt⟩
    rw [upd_ne (fun z => by rw [← hD] at z; exact absurd lt (by rw [z]; exact Nat.lt_irrefl _))]
    exact (f2 b hb).1
  have st3 : tn 0 s3.heap := T.keep _ _ _ st2 fun b _ o e => by rw [hp3]; exact Heap.get?_push_of_some _ e
  have I4 := block_start I3 ok hN f3
  have pg := hg s3 (upd H2 D (.lst [])) s3.heap.objs.size (cellsFrom (s3.heap.objs.size + 1) scope.names (cloFrom X.env.cells scope.names [])) fp
  have pt := ht s3 (upd H2 D (.lst [])) s3.heap.objs.size (cellsFrom (s3.heap.objs.size + 1) scope.names (cloFrom X.env.cells scope.names [])) fp
  have pe := he s3 (upd H2 D (.lst [])) s3.heap.objs.size (cellsFrom (s3.heap.objs.size + 1) scope.names (cloFrom X.env.cells scope.names [])) fp
  show codeAny _ _ (.compStart (.ListComp elt [⟨tg, iter, ifs, 0⟩] scope pos) 0 (.ref it) (.ref D) (compEnvC scope (cellsFrom (s3.heap.objs.size + 1) scope.names (cloFrom X.env.cells scope.names [])) s3.heap.objs.size X.env))
    (compEnds (model X.prog X.w) X.A X.xe none (EP X pins σ Q) (.ref D) (compEnvC scope (cellsFrom (s3.heap.objs.size + 1) scope.names (cloFrom X.env.cells scope.names [])) s3.heap.objs.size X.env)) { s3 with heap := pushCells (s3.heap.push { cls := .type "dict", data := .dict #[] }) scope.names }
  have nfp : ∀ b ∈ fp, (upd H2 D (.lst [])) b = none := fun b hb => (f3 b hb).1.1
  have cfr : (compEnvC scope (cellsFrom (s3.heap.objs.size + 1) scope.names (cloFrom X.env.cells scope.names [])) s3.heap.objs.size X.env).frame = X.env.frame := rfl
  have cL : (compEnvC scope (cellsFrom (s3.heap.objs.size + 1) scope.names (cloFrom X.env.cells scope.names [])) s3.heap.objs.size X.env).locals = s3.heap.objs.size := rfl
  generalize compEnvC scope (cellsFrom (s3.heap.objs.size + 1) scope.names (cloFrom X.env.cells scope.names [])) s3.heap.objs.size X.env = ce at I4 pg pt pe cfr cL ⊢
  generalize upd H2 D (.lst []) = H3 at I3 I4 pg pt pe w0 nfp f3
  generalize es4 : ({ s3 with heap := pushCells (s3.heap.push { cls := .type "dict", data := .dict #[] }) scope.names } : Shared) = s4 at I4 ⊢
  have st4 : tn 0 s4.heap := T.keep _ _ _ st3 fun b _ o e => by rw [← es4]; exact pushCells_keeps _ _ _ _ (Heap.get?_push_of_some _ e)
  have I4 : Inv (bx X E s3 H3 scope ce fp) [] (wipe σ (own.map (·.2))) H3 s4 := I4.wish _
  have stat : ∀ {τ : L2.St} {G : Hp} {z : Shared}, Inv (bx X E s3 H3 scope ce fp) [] τ G z → (∀ b ∈ fp, G b = none) → ∀ b ∈ fp, FpOk (bx X E s3 H3 scope ce fp) [] G b := fun {τ G z} K hn b hb =>
    ⟨hn b hb, (K.ok.exf b hb).1, K.ok.exfs b hb, .inl hb, fun x c e => (K.ok.exf b hb).2 x c e, fun p hp => absurd (show p ∈ ([] : List (Addr × Obj)) ++ [] from hp) (by simp)⟩
  have back : ∀ {pi : List (Addr × Obj)} {τ : L2.St} {G : Hp} {z : Shared}, Inv (X.blk s3 H3 scope ce fp) pi τ G z → Inv X pins σ G z := fun {pi τ G z} K =>
    I3.call' (ch := fp) K.os K.base K.hok K.bare fun b hb => ⟨(f3 b hb).1.2.2.2.1, (f3 b hb).1.2.1, (f3 b hb).1.2.2.2.2.1, (f3 b hb).1.2.2.2.2.2⟩
  have atC : ∀ {G : Hp}, G ce.locals = none → FpOk X pins G ce.locals := fun {G} n => I3.fpOk (by rw [cL]; exact Nat.le_refl _) n
  have nst : ce.locals ∉ frs X.stack := fun hm => by
    obtain ⟨_, o, ho, _⟩ := I3.stack.mem hm
    have := Heap.lt_size ho
    rw [cL] at this
    exact Nat.lt_irrefl _ this
  have flee : ∀ u z, (bx X E s3 H3 scope ce fp).xe u z → notedBy (model X.prog X.w) X.A ce (fun e z' => compEnds (model X.prog X.w) X.A X.xe none (EP X pins σ Q) (.ref D) ce (.error e) z') u z := by
    rintro u z ⟨pi, τ, G, z0, K, c⟩
    obtain ⟨m, hn, _⟩ := K.loc
    have nG : G ce.locals = none := K.free
    obtain ⟨_, b1, b2, b3, b4, b5⟩ := atC nG
    exact out_of tk hst hf cfr hW (back K) nG hn b1 nst b3 b4 (fun p hp => b5 p (List.mem_append_left _ hp)) c
  have loop : codeAny (model X.prog X.w) X.A (.compLoop (.ListComp elt [⟨tg, iter, ifs, 0⟩] scope pos) 0 (.ref it) (.ref D) ce) (compEnds (model X.prog X.w) X.A X.xe none (EP X pins σ Q) (.ref D) ce) s4 := by
    refine compLoop_any (fun n z => ∃ i G, Inv (bx X E s3 H3 scope ce fp) [] (wipe σ (own.map (·.2))) G z ∧ tn i z.heap ∧ (∀ b ∈ fp, G b = none) ∧ Wt i n G) ?_ m0 ⟨0, H3, I4, st4, nfp, w0⟩
    rintro n s5 ⟨i, H5, I5, st5, n5, w5⟩
    rcases turn i n H5 w5 with ⟨stop, qq⟩ | ⟨go, Nx, hNx, step⟩
    · refine thnF (T.done (bx X E s3 H3 scope ce fp) rfl rfl rfl hc i [] s5 _ H5 (fun _ _ => False) I5 (stat I5 n5) st5 stop) fun r s6 ⟨hr, I6⟩ => ?_
      subst hr
      have I6 := I6.unwish
      obtain ⟨m, hn, _⟩ := I6.loc
      obtain ⟨b0, b1, b2, b3, b4, b5⟩ := atC (G := H5) I6.free
      refine ⟨m, hn, fun h'' sb => ?_⟩
      exact ⟨.ref D, H5, (back I6).turned (t' := s6.toks) (fun b o hb e => (sb.2 b hb).trans e) b0 b1 b3 b4 b5, rfl, qq⟩
    · refine thnF (T.item (bx X E s3 H3 scope ce fp) rfl rfl rfl hc i [] s5 _ H5 (fun _ _ => False) I5 (stat I5 n5) st5 go) fun r s6 ⟨v, hr, h6⟩ => ?_
      subst hr
      refine thnF h6 fun _ s7 ⟨x, H7, I7, r7, y7, st7, n7⟩ => ?_
      refine more (pg.run _ s7 _ H7 x v _ (I7.pinned (stat I7 n7) (T.obj _ _ st7)) r7 (step x H7 y7)) (fun _ s8 ⟨σ8, H8, I8, hw8, q8⟩ => ?_) flee
      refine more (pt.run _ s8 σ8 H8 _ I8 q8) (fun b s9 ⟨H9, I9, q9⟩ => ?_) flee
      have fin : ∀ {z : Shared} {G : Hp}, Inv (bx X E s3 H3 scope ce fp) ([] ++ pinsAt fp s7.heap) σ8 G z → Nx G → ∃ m, m < n ∧ ∃ i G, Inv (bx X E s3 H3 scope ce fp) [] (wipe σ (own.map (·.2))) G z ∧ tn i z.heap ∧ (∀ b ∈ fp, G b = none) ∧ Wt i m G := fun {z G} K nx => by
        obtain ⟨m', lt, w'⟩ := hNx G nx
        have pin' : ∀ b ∈ fp, ∀ o, s7.heap.get? b = some o → z.heap.get? b = some o ∧ G b = none := fun b hb o e => by
          have q := K.pin (b, o) (List.mem_append_right _ (List.mem_append_right _ (mem_pinsAt hb e)))
          exact ⟨q.1, q.2.1⟩
        refine ⟨m', lt, i + 1, G, (K.unpinned (pins := [])).weak (by rw [← hw8, wipe_length]) (fun j v e => ?_), T.keep _ _ _ st7 fun b hb o e => (pin' b hb o e).1, fun b hb => ?_, w'⟩
        · rw [← hw8] at e
          exact (wipe_some e).1
        · obtain ⟨o, e, _⟩ := T.obj _ _ st7 b hb
          exact (pin' b hb o e).2
      cases b with
      | false => exact fin I9 q9
      | true => exact more (pe.run _ s9 σ8 H9 _ I9 q9) (fun y s10 ⟨yv, H10, I10, r10, acc, hD10, hz10, nx⟩ => app_ok (X := bx X E s3 H3 scope ce fp) I10 hD10 hz10 r10 fun s11 I11 => fin I11 nx) flee
  exact codeAny_compStart_list loop (T.self X.A 0 _ _ _ st4 loop)
end
end SwX

/-! a lambda as a value that is kept, with a default or without; called in a def, out of a comprehension -/
namespace LamV
open PySem PySem.Spec PyProof.Rows L2 LamX
/-- the lambda's function, its defaults at dV -/
abbrev lfn (q : Str) (params : Arguments) (body : Expr) (scope : Scope) (cl : List (Str × Addr)) (pm cdv ct dV : Value) : FuncData := { PySem.W.kla_fn "<lambda>" q params body scope cl pm cdv ct with defaults := dV }
def LamO (f : Addr) (q : Str) (params : Arguments) (body : Expr) (scope : Scope) (cl : List (Str × Addr)) (c' : Addr) (dV : Value) : HO :=
  .ext fun h => ∃ pm ctv, h.get? f = some { cls := .type "function", data := .func (lfn q params body scope cl pm (.ref c') ctv dV) }
theorem lamO_ok {P : Program} {w : World} {H : Hp} {h : Heap} {f c' : Addr} {q : Str} {params : Arguments} {body : Expr} {scope : Scope} {cl : List (Str × Addr)} {pm ctv dV : Value} (e : h.get? f = some { cls := .type "function", data := .func (lfn q params body scope cl pm (.ref c') ctv dV) }) :
    ObjOk P w H h f (LamO f q params body scope cl c' dV) := ⟨⟨pm, ctv, e⟩, ⟨_, e⟩, fun _ _ ⟨pm, ctv, z⟩ k => ⟨pm, ctv, k _ z⟩⟩
theorem lamO_ne {f c' : Addr} {q : Str} {params : Arguments} {body : Expr} {scope : Scope} {cl : List (Str × Addr)} {dV : Value} (ps : Array Value) : LamO f q params body scope cl c' dV ≠ .tbl ps := fun z => by
  unfold LamO at z
  cases z
section
variable {M : Model} {A : Around} {E : Value → Shared → Prop} {s : Shared} {q : Str} {params : Arguments} {body : Expr} {scope : Scope} {env : Env} {c P : Addr} {ps : Array Value} {pos : Pos} {ln : Nat} {mg : Str → Option Value} {y0 : Str × Addr} {ys : List (Str × Addr)} {Q : Value → Shared → Prop} {dV : Value}
/-- makeFunction's end for a lambda that captures something -/
theorem tail_of (hcl : closureFor scope env = pure (y0 :: ys)) (hge : env.globals = mainGlobals) (hg : s.heap.Ns mainGlobals mg) (hco : env.code = .ref c) (C : PySem.W.CodeHd s.heap c P) (hP : s.heap.get? P = some { cls := .none, data := .fields ps }) (ht : TriplesOk ps.toList) (hgP : mainGlobals ≠ P) (hb : s.heap.BuiltinsAt mg P)
    (new : codeAmong pos ps.toList = none → ∀ (c' : Addr) (ctv : Value) (h' : Heap) (tk : Tok), Heap.ExtBut P s.heap h' → s.heap.objs.size ≤ c' → c' < h'.objs.size → h'.CodeRec (.ref c') q → h'.get? P = some { cls := .none, data := .fields (ps ++ #[rawInt pos.line, rawInt pos.col, .ref c']) } →
      Q (.ref h'.objs.size) { s with heap := h'.push { cls := .type "function", data := .func (lfn q params body scope (y0 :: ys) ((mg "__name__").getD .none) (.ref c') ctv dV) }, toks := tk })
    (hit : ∀ cv, codeAmong pos ps.toList = some cv → ∀ (ctv : Value) (h' : Heap) (tk : Tok), (∀ b o, s.heap.get? b = some o → h'.get? b = some o) → s.heap.objs.size ≤ h'.objs.size →
      Q (.ref h'.objs.size) { s with heap := h'.push { cls := .type "function", data := .func (lfn q params body scope (y0 :: ys) ((mg "__name__").getD .none) cv ctv dV) }, toks := tk }) :
    wpAny M A (makeTail "<lambda>" q params (.expr body) scope env dV .none none pos ln) Q E s := by
  obtain ⟨bm, ob, i1, i2, _, i4, i5, i6, i7, i8⟩ := hb
  have up : ∀ {oT : Obj} b o, s.heap.get? b = some o → (s.heap.push oT).get? b = some o := fun b o e => Heap.get?_push_of_some _ e
  unfold makeTail
  rw [hcl, hge]
  refine wpAny_bind (wpAny_pure ?_)
  rw [if_neg (by simp)]
  refine wpAny_bind (wpAny_newTextTuple ?_)
  cases hc : codeAmong pos ps.toList with
  | none =>
    refine wpAny_bind (wpAny_functionCodeX hco ((C.keeps up).code (up _ _ hP) ht) ((C.keeps up).tab (up _ _ hP)) hc fun c' h' tk hx k1 k2 _ hrec htb _ => ?_)
    have g2 := (hg.push _).extBut hx hgP
    have hx2 : Heap.ExtBut P s.heap h' := fun b o hb e => hx b o hb (up _ _ e)
    refine wpAny_bind (wpAny_builtinsFor g2 i1 i2 (hx2 _ _ i4 i5) i6 i7 i8 ?_)
    refine wpAny_bind (wpAny_nsGet g2 ?_)
    refine wpAny_bind (wpAny_pure (wpAny_newObj_type (new hc c' _ h' tk hx2 (Nat.le_trans ?_ k1) k2 hrec htb.2) (by size_fits)))
    rw [Heap.size_push]
    exact Nat.le_succ _
  | some cv =>
    refine wpAny_bind (wpAny_functionCode_hit hco ((C.keeps up).code (up _ _ hP) ht) hc ?_)
    refine wpAny_bind (wpAny_builtinsFor (hg.push _) i1 i2 (up _ _ i5) i6 i7 i8 ?_)
    refine wpAny_bind (wpAny_nsGet (hg.push _) ?_)
    refine wpAny_bind (wpAny_pure (wpAny_newObj_type (hit cv hc _ _ s.toks up ?_) (by size_fits)))
    rw [Heap.size_push]
    exact Nat.le_succ _
end
section
variable {X : Cx} {pins : List (Addr × Obj)} {σ : L2.St} {H : Hp} {s : Shared}
/-- the function is laid -/
theorem lam_laid {T : List (Addr × Str)} {c P : Addr} {params : Arguments} {body : Expr} {scope : Scope} {pos : Pos} {ln : Nat} {E : Value → Shared → Prop} {Q : Value → Shared → Prop} {dV : Value} {y0 : Str × Addr} {ys : List (Str × Addr)} (I : Inv X pins σ H s) (TB : TabB X.base X.mg c P) (hcode : X.env.code = .ref c) {q : Str}
    (hm : (P, q) ∈ T) (hu : ∀ p ∈ T, p.1 = P → p.2 = q) (hT : Tabs T H) (hcl : closureFor scope X.env = pure (y0 :: ys))
    (h : ∀ (f c' : Addr) (H1 : Hp) (s' : Shared), Inv X pins σ (upd H1 f (LamO f q params body scope (y0 :: ys) c' dV)) s' → ExtN H H1 → Tabs T H1 → H1 f = none → H1 c' = some (CodeO c' q) → Q (.ref f) s') :
    wpAny (model X.prog X.w) X.A (makeTail "<lambda>" q params (.expr body) scope X.env dV .none none pos ln) Q E s := by
  obtain ⟨ps, hP, ht, ha⟩ := hT _ hm
  have hP' : s.heap.get? P = some { cls := .none, data := .fields ps } := I.hok P _ hP
  refine tail_of (mg := X.mg) hcl I.ok.glob (I.mod.glob.keeps I.bk) hcode (TB.code.keeps I.bk) hP' ht TB.gP (TB.bm.keeps I.bk) (fun hc c' ctv h' tk hx k1 k2 hrec htb => ?_) (fun cv hc ctv h' tk kp hsz => ?_)
  · obtain ⟨c2, oc, vs, t, e2, hoc, hd, hv⟩ := hrec
    cases e2
    have hsz : s.heap.objs.size ≤ h'.objs.size := Nat.le_trans k1 (Nat.le_of_lt k2)
    have nC : H c' = none := I.hok.fresh k1
    have I1 := inv_table (t' := tk) (more := #[rawInt pos.line, rawInt pos.col, .ref c']) (h' := h') I hP hx htb k1 ⟨oc, vs, t, hoc, hd, hv⟩
    have ex : ExtN H (upd (upd H P (.tbl (ps ++ #[rawInt pos.line, rawInt pos.col, .ref c']))) c' (CodeO c' q)) := fun b o e n => by
      rw [upd_ne (ne_of_none e nC), upd_ne (fun z => n ps (by rw [z, hP] at e; exact (Option.some.inj e).symm))]
      exact e
    have eL : (ps ++ #[rawInt pos.line, rawInt pos.col, .ref c']).toList = ps.toList ++ [rawInt pos.line, rawInt pos.col, .ref c'] := by simp
    refine h h'.objs.size c' _ _ (I1.laid (t' := tk) (fun b u e => Heap.get?_push_of_some _ e) (Nat.le_refl _) (lamO_ok (Heap.get?_push_size _ rfl))) ex (fun p hp => ?_) ?_ upd_same
    · by_cases hb : p.1 = P
      · rw [hu p hp hb, hb]
        refine ⟨_, by rw [upd_ne (ne_of_none hP nC), upd_same], by rw [eL]; exact PySem.TriplesOk_snoc _ _ _ _ ht, fun p' cv hcv => ?_⟩
        rw [eL] at hcv
        rcases among_app _ ht hcv with z | z
        · obtain ⟨c0, e1, e2⟩ := ha p' cv z
          exact ⟨c0, e1, ex _ _ e2 codeO_ne⟩
        · exact ⟨c', z, upd_same⟩
      · obtain ⟨ps', a1, a2, a3⟩ := hT p hp
        refine ⟨ps', by rw [upd_ne (ne_of_none a1 nC), upd_ne hb]; exact a1, a2, fun p' cv hcv => ?_⟩
        obtain ⟨c0, e1, e2⟩ := a3 p' cv hcv
        exact ⟨c0, e1, ex _ _ e2 codeO_ne⟩
    · exact I1.hok.fresh (Nat.le_refl _)
  · obtain ⟨c', e, hco⟩ := ha pos cv hc
    subst e
    refine h h'.objs.size c' H _ (I.laid (t' := tk) (fun b u e => Heap.get?_push_of_some _ (kp b u e)) hsz (lamO_ok (Heap.get?_push_size _ rfl))) (ExtN.refl H) hT (I.hok.fresh hsz) hco
def tLam0 (T : List (Addr × Str)) (q : Str) (params : Arguments) (body : Expr) (scope : Scope) (cl : List (Str × Addr)) : TE := fun σ H Q => Tabs T H ∧ ∀ f c' H1, ExtN H H1 → Tabs T H1 → H1 f = none → H1 c' = some (CodeO c' q) → Q (.ref f) (upd H1 f (LamO f q params body scope cl c' .none))
/-- lambda: body, kept -/
theorem pe_lam0 {T : List (Addr × Str)} {c P : Addr} {params : Arguments} {body : Expr} {scope : Scope} {pos : Pos} {q : Str} (TB : TabB X.base X.mg c P) (hcode : X.env.code = .ref c) (hq : X.env.qual ++ "<lambda>" = q)
    (hm : (P, q) ∈ T) (hu : ∀ p ∈ T, p.1 = P → p.2 = q) (hdef : defaultsOf params X.env = ([], [])) (hfree : ∀ y ∈ scope.names, y.2 = .free → X.env.scope.names.lookup y.1 = some .cell) (hcl : ∃ y0 ys, cloFrom X.env.cells scope.names [] = y0 :: ys) : PE X (.Lambda params body scope pos) (tLam0 T q params body scope (cloFrom X.env.cells scope.names [])) := by
  obtain ⟨y0, ys, hcl⟩ := hcl
  refine ⟨fun pins s σ H Q I hh => ?_⟩
  unfold tLam0 at hh
  rw [hcl] at hh
  obtain ⟨hT, h⟩ := hh
  refine PySem.W.kla_eval hdef ?_
  rw [makeFunction_eq]
  simp only [List.zip_nil_right, List.filterMap_nil, List.isEmpty_nil, if_true, pure_bind]
  rw [hq]
  refine lam_laid I TB hcode hm hu hT ((closure_ok fun y hy e => I.ok.has _ (.inl (hfree y hy e))).trans (by rw [hcl])) fun f c' H1 s' I1 e1 t1 nf hco => ?_
  exact ⟨.ref f, _, I1, rfl, h f c' H1 e1 t1 nf hco⟩
def tLam1 (T : List (Addr × Str)) (q : Str) (params : Arguments) (body : Expr) (scope : Scope) (cl : List (Str × Addr)) (n : Int) : TE := fun σ H Q => Tabs T H ∧ ∀ t f c' H0 H1, H t = none → H0 = upd H t (.tup [.int n]) → ExtN H0 H1 → Tabs T H1 → H1 f = none → H1 c' = some (CodeO c' q) → Q (.ref f) (upd H1 f (LamO f q params body scope cl c' (.ref t)))
/-- lambda a=n: body, kept -/
theorem pe_lam1 {T : List (Addr × Str)} {c P : Addr} {params : Arguments} {body e : Expr} {scope : Scope} {pos : Pos} {q : Str} {n : Int} (TB : TabB X.base X.mg c P) (hcode : X.env.code = .ref c) (hq : X.env.qual ++ "<lambda>" = q)
    (hm : (P, q) ∈ T) (hu : ∀ p ∈ T, p.1 = P → p.2 = q) (hdef : defaultsOf params X.env = ([eval e X.env], [])) (he : PE X e (tC (.int n))) (hfree : ∀ y ∈ scope.names, y.2 = .free → X.env.scope.names.lookup y.1 = some .cell) (hcl : ∃ y0 ys, cloFrom X.env.cells scope.names [] = y0 :: ys) : PE X (.Lambda params body scope pos) (tLam1 T q params body scope (cloFrom X.env.cells scope.names []) n) := by
  obtain ⟨y0, ys, hcl⟩ := hcl
  refine ⟨fun pins s σ H Q I hh => ?_⟩
  unfold tLam1 at hh
  rw [hcl] at hh
  obtain ⟨hT, h⟩ := hh
  rw [arm_eval_Lambda, hdef]
  show wpAny _ _ (do let dv ← evalAll [eval e X.env]; let kdv ← holding dv (evalAllOpt []); makeFunction "<lambda>" (X.env.qual ++ "<lambda>") params (.expr body) scope X.env dv kdv [] pos pos.line) _ _ s
  unfold evalAll
  refine wpAny_bind (wpAny_bind (thn (he.run pins s σ H (fun v H' => v = .int n ∧ H' = H) I ⟨rfl, rfl⟩) fun u s1 ⟨v, H', I1, r, ev, eH⟩ => ?_))
  subst ev
  subst eH
  refine wpAny_bind (wpAny_holding (wpAny_pure (wpAny_pure (wpAny_bind (wpAny_holding (wpAny_pure ?_))))))
  rw [makeFunction_eq]
  simp only [List.zip_nil_right, List.filterMap_nil, List.isEmpty_nil, List.isEmpty_cons, if_true, Bool.false_eq_true, if_false, pure_bind]
  refine wpAny_bind (wpAny_newTextTuple ?_)
  rw [hq]
  have nt : H' s1.heap.objs.size = none := I1.hok.fresh (Nat.le_refl _)
  have I2 : Inv X pins σ (upd H' s1.heap.objs.size (.tup [.int n])) { s1 with heap := s1.heap.push { cls := .type "tuple", data := .seq [u].toArray } } :=
    I1.laid (t' := s1.toks) (fun b u e => Heap.get?_push_of_some _ e) (Nat.le_refl _) ⟨(by show 1 ≤ sizeLine; decide), [u], .cons r .nil, ⟨_, Heap.get?_push_size _ rfl, rfl, _, rfl⟩⟩
  refine lam_laid I2 TB hcode hm hu (Tabs.ext hT fun b o e => by rw [upd_ne (ne_of_none e nt)]; exact e) ((closure_ok fun y hy e => I2.ok.has _ (.inl (hfree y hy e))).trans (by rw [hcl])) fun f c' H1 s' I3 e1 t1 nf hco => ?_
  exact ⟨.ref f, _, I3, rfl, h s1.heap.objs.size f c' _ H1 nt rfl e1 t1 nf hco⟩
end
end LamV

/-! a comprehension whose element calls lambdas of the frame around it -/
namespace LamV
open PySem PySem.Spec PyProof.Rows L2 LamX
/-- an element's reading in the block B; what is captured stands as the frame X has it -/
def ElemI (X B : Cx) (vs : List Nat) (elt : Expr) (te : TE) : Prop := ∀ (pins : List (Addr × Obj)) {σw : L2.St} (toX : ∀ {pi : List (Addr × Obj)} {τ : L2.St} {G : Hp} {z : Shared}, Inv B pi τ G z → Inv X pins σw G z) (pi : List (Addr × Obj)) (z : Shared) (τ : L2.St) (G : Hp) (Q : VK), Inv B pi τ G z → wipe τ vs = σw → te τ G Q →
  wpAny (model B.prog B.w) B.A (eval elt B.env) (EP B pi τ Q) B.xe z
section
variable {X : Cx}
/-- [elt for tg in iter if ifs] as a value, its element told of the frame's own state too -/
theorem pe_lcI {elt tg iter : Expr} {ifs : List Expr} {scope : Scope} {own : List (Str × Nat)} {pos : Pos} {wi : TI} {g : TG} {tt : TT} {te : TE} 
    (hc : X.calm = true) (hN : X.N.Nodup) (hi : PI X tg iter wi) (ok : BlkOk X.N X.env.scope scope own)
    (hg : ∀ (s : Shared) (H : Hp) (C : Addr) (cl : List (Str × Addr)) (fp : List Addr), PG (X.blk s H scope (compEnvC scope cl C X.env) fp) tg g)
    (ht : ∀ (s : Shared) (H : Hp) (C : Addr) (cl : List (Str × Addr)) (fp : List Addr), PTs (X.blk s H scope (compEnvC scope cl C X.env) fp) ifs tt)
    (he : ∀ (s : Shared) (H : Hp) (C : Addr) (cl : List (Str × Addr)) (fp : List Addr), ElemI X (X.blk s H scope (compEnvC scope cl C X.env) fp) (own.map (·.2)) elt te) (hs : ∀ x, foldedSetIterable iter X.env x = pure x := by intro _; rfl) :
    PE X (.ListComp elt [⟨tg, iter, ifs, 0⟩] scope pos) (tLc wi g tt te (own.map (·.2))) := by
  refine ⟨fun pins s σ H Q I h => ?_⟩
  rw [eval_ListComp]
  have cells : ∀ y ∈ scope.names, y.2 = .free → ∃ c, X.env.cells.lookup y.1 = some c := fun y hy e => (ok.free y hy e).elim (fun k => I.ok.has _ (.inl k)) (fun k => I.ok.has _ (.inr k))
  refine comprehension_at (use := none) rfl hs (closure_ok cells) ok.kind (fun y hy e => by rw [ok.uniq y hy, e]) (thn (hi.run pins s σ H _ I h) fun xv s1 hx => thn hx fun itv s2 hit => ?_)
  obtain ⟨it, fp, tn, J, H2, eit, I2, T, st2, f2, q⟩ := hit
  subst eit
  refine wpAny_newObj_type (newEnv_comp ?_) (by show 0 ≤ sizeLine; decide)
  generalize hD : s2.heap.objs.size = D
  obtain ⟨Wt, ⟨m0, w0⟩, turn⟩ := q D (I2.hok.fresh (Nat.le_of_eq hD))
  generalize es3 : ({ s2 with heap := s2.heap.push { cls := .type "list", data := .seq ([] : List Value).toArray } } : Shared) = s3
  have hp3 : s3.heap = s2.heap.push { cls := .type "list", data := .seq ([] : List Value).toArray } := by rw [← es3]
  have I3 : Inv X pins σ (upd H2 D (.lst [])) s3 := by
    rw [← es3]
    exact I2.laid (t' := s2.toks) (fun b o e => Heap.get?_push_of_some _ e) (Nat.le_of_eq hD) ⟨Nat.zero_le _, [], 0, .nil, by rw [← hD]; exact Heap.get?_push_size _ rfl⟩
  have small : ∀ b ∈ fp, b < s2.heap.objs.size := fun b hb => let ⟨o, e, _⟩ := T.obj _ _ st2 b hb; Heap.lt_size e
  have f3 : ∀ b ∈ fp, FpOk X pins (upd H2 D (.lst [])) b ∧ b < s3.heap.objs.size := fun b hb => by
    have lt := small b hb
    refine ⟨⟨?_, (f2 b hb).2⟩, by rw [hp3, Heap.size_push]; exact Nat.lt_succ_of_lt lt⟩
    rw [upd_ne (fun z => by rw [← hD] at z; exact absurd lt (by rw [z]; exact Nat.lt_irrefl _))]
    exact (f2 b hb).1
  have st3 : tn 0 s3.heap := T.keep _ _ _ st2 fun b _ o e => by rw [hp3]; exact Heap.get?_push_of_some _ e
  have I4 := block_start I3 ok hN f3
  have pg := hg s3 (upd H2 D (.lst [])) s3.heap.objs.size (cellsFrom (s3.heap.objs.size + 1) scope.names (cloFrom X.env.cells scope.names [])) fp
  have pt := ht s3 (upd H2 D (.lst [])) s3.heap.objs.size (cellsFrom (s3.heap.objs.size + 1) scope.names (cloFrom X.env.cells scope.names [])) fp
  have pe := he s3 (upd H2 D (.lst [])) s3.heap.objs.size (cellsFrom (s3.heap.objs.size + 1) scope.names (cloFrom X.env.cells scope.names [])) fp
  show codeAny _ _ (.compStart (.ListComp elt [⟨tg, iter, ifs, 0⟩] scope pos) 0 (.ref it) (.ref D) (compEnvC scope (cellsFrom (s3.heap.objs.size + 1) scope.names (cloFrom X.env.cells scope.names [])) s3.heap.objs.size X.env))
    (compEnds (model X.prog X.w) X.A X.xe none (EP X pins σ Q) (.ref D) (compEnvC scope (cellsFrom (s3.heap.objs.size + 1) scope.names (cloFrom X.env.cells scope.names [])) s3.heap.objs.size X.env)) { s3 with heap := pushCells (s3.heap.push { cls := .type "dict", data := .dict #[] }) scope.names }
  have nfp : ∀ b ∈ fp, (upd H2 D (.lst [])) b = none := fun b hb => (f3 b hb).1.1
  have cfr : (compEnvC scope (cellsFrom (s3.heap.objs.size + 1) scope.names (cloFrom X.env.cells scope.names [])) s3.heap.objs.size X.env).frame = X.env.frame := rfl
  have cL : (compEnvC scope (cellsFrom (s3.heap.objs.size + 1) scope.names (cloFrom X.env.cells scope.names [])) s3.heap.objs.size X.env).locals = s3.heap.objs.size := rfl
  generalize compEnvC scope (cellsFrom (s3.heap.objs.size + 1) scope.names (cloFrom X.env.cells scope.names [])) s3.heap.objs.size X.env = ce at I4 pg pt pe cfr cL ⊢
  generalize upd H2 D (.lst []) = H3 at I3 I4 pg pt pe w0 nfp f3
  generalize es4 : ({ s3 with heap := pushCells (s3.heap.push { cls := .type "dict", data := .dict #[] }) scope.names } : Shared) = s4 at I4 ⊢
  have st4 : tn 0 s4.heap := T.keep _ _ _ st3 fun b _ o e => by rw [← es4]; exact pushCells_keeps _ _ _ _ (Heap.get?_push_of_some _ e)
  have stat : ∀ {τ : L2.St} {G : Hp} {z : Shared}, Inv (X.blk s3 H3 scope ce fp) [] τ G z → (∀ b ∈ fp, G b = none) → ∀ b ∈ fp, FpOk (X.blk s3 H3 scope ce fp) [] G b := fun {τ G z} K hn b hb =>
    ⟨hn b hb, (K.ok.exf b hb).1, K.ok.exfs b hb, .inl hb, fun x c e => (K.ok.exf b hb).2 x c e, fun p hp => absurd (show p ∈ ([] : List (Addr × Obj)) ++ [] from hp) (by simp)⟩
  have back : ∀ {pi : List (Addr × Obj)} {τ : L2.St} {G : Hp} {z : Shared}, Inv (X.blk s3 H3 scope ce fp) pi τ G z → Inv X pins σ G z := fun {pi τ G z} K =>
    I3.call' (ch := fp) K.os K.base K.hok K.bare fun b hb => ⟨(f3 b hb).1.2.2.2.1, (f3 b hb).1.2.1, (f3 b hb).1.2.2.2.2.1, (f3 b hb).1.2.2.2.2.2⟩
  have atC : ∀ {G : Hp}, G ce.locals = none → FpOk X pins G ce.locals := fun {G} n => I3.fpOk (by rw [cL]; exact Nat.le_refl _) n
  have loop : codeAny (model X.prog X.w) X.A (.compLoop (.ListComp elt [⟨tg, iter, ifs, 0⟩] scope pos) 0 (.ref it) (.ref D) ce) (compEnds (model X.prog X.w) X.A X.xe none (EP X pins σ Q) (.ref D) ce) s4 := by
    refine compLoop_any (fun n z => ∃ i G, Inv (X.blk s3 H3 scope ce fp) [] (wipe σ (own.map (·.2))) G z ∧ tn i z.heap ∧ (∀ b ∈ fp, G b = none) ∧ Wt i n G) ?_ m0 ⟨0, H3, I4, st4, nfp, w0⟩
    rintro n s5 ⟨i, H5, I5, st5, n5, w5⟩
    rcases turn i n H5 w5 with ⟨stop, qq⟩ | ⟨go, Nx, hNx, step⟩
    · refine thnF (T.done (X.blk s3 H3 scope ce fp) rfl rfl rfl hc i [] s5 _ H5 (fun _ _ => False) I5 (stat I5 n5) st5 stop) fun r s6 ⟨hr, I6⟩ => ?_
      subst hr
      obtain ⟨m, hn, _⟩ := I6.loc
      obtain ⟨b0, b1, b2, b3, b4, b5⟩ := atC (G := H5) I6.free
      refine ⟨m, hn, fun h'' sb => ?_⟩
      exact ⟨.ref D, H5, (back I6).turned (t' := s6.toks) (fun b o hb e => (sb.2 b hb).trans e) b0 b1 b3 b4 b5, rfl, qq⟩
    · refine thnF (T.item (X.blk s3 H3 scope ce fp) rfl rfl rfl hc i [] s5 _ H5 (fun _ _ => False) I5 (stat I5 n5) st5 go) fun r s6 ⟨v, hr, h6⟩ => ?_
      subst hr
      refine thnF h6 fun _ s7 ⟨x, H7, I7, r7, y7, st7, n7⟩ => ?_
      refine thnF (pg.run _ s7 _ H7 x v _ (I7.pinned (stat I7 n7) (T.obj _ _ st7)) r7 (step x H7 y7)) fun _ s8 ⟨σ8, H8, I8, hw8, q8⟩ => ?_
      refine thnF (pt.run _ s8 σ8 H8 _ I8 q8) fun b s9 ⟨H9, I9, q9⟩ => ?_
      have fin : ∀ {z : Shared} {G : Hp}, Inv (X.blk s3 H3 scope ce fp) ([] ++ pinsAt fp s7.heap) σ8 G z → Nx G → ∃ m, m < n ∧ ∃ i G, Inv (X.blk s3 H3 scope ce fp) [] (wipe σ (own.map (·.2))) G z ∧ tn i z.heap ∧ (∀ b ∈ fp, G b = none) ∧ Wt i m G := fun {z G} K nx => by
        obtain ⟨m', lt, w'⟩ := hNx G nx
        have pin' : ∀ b ∈ fp, ∀ o, s7.heap.get? b = some o → z.heap.get? b = some o ∧ G b = none := fun b hb o e => by
          have q := K.pin (b, o) (List.mem_append_right _ (List.mem_append_right _ (mem_pinsAt hb e)))
          exact ⟨q.1, q.2.1⟩
        refine ⟨m', lt, i + 1, G, (K.unpinned (pins := [])).weak (by rw [← hw8, wipe_length]) (fun j v e => ?_), T.keep _ _ _ st7 fun b hb o e => (pin' b hb o e).1, fun b hb => ?_, w'⟩
        · rw [← hw8] at e
          exact (wipe_some e).1
        · obtain ⟨o, e, _⟩ := T.obj _ _ st7 b hb
          exact (pin' b hb o e).2
      cases b with
      | false => exact fin I9 q9
      | true =>
        have toX : ∀ {pi : List (Addr × Obj)} {τ : L2.St} {G : Hp} {z : Shared}, Inv (X.blk s3 H3 scope ce fp) pi τ G z → Inv X pins (wipe σ8 (own.map (·.2))) G z := fun {pi τ G z} K => (back K).weak (by rw [hw8, wipe_length]) (fun j v e => by
          rw [hw8] at e
          exact (wipe_some e).1)
        exact thnF (pe pins toX _ s9 σ8 H9 _ I9 rfl q9) fun y s10 ⟨yv, H10, I10, r10, acc, hD10, hz10, nx⟩ => app_ok (X := X.blk s3 H3 scope ce fp) I10 hD10 hz10 r10 fun s11 I11 => fin I11 nx
  exact codeAny_compStart_list loop (T.self X.A 0 _ _ _ st4 loop)
end
end LamV

/-! a kept lambda, called in the def that got it -/
namespace LamV
open PySem PySem.Spec PyProof.Rows L2 LamX
/-- a lambda's names: captured ones, globals, own ones that the frame around has not -/
structure LamN (N : List Str) (sc scope : Scope) : Prop where
  kind : scope.kind = .function
  co : scope.isCoroutine = false
  gen : scope.isGenerator = false
  cell : ∀ y ∈ scope.names, y.2 ≠ .cell
  own : ∀ y ∈ scope.names, y.2 = .local → y.1 ∉ N
  free : ∀ y ∈ scope.names, y.2 = .free → sc.names.lookup y.1 = some .cell
def lamNB (N : List Str) (sc scope : Scope) : Bool :=
  decide (scope.kind = .function) && !scope.isCoroutine && !scope.isGenerator && scope.names.all fun y => !decide (y.2 = .cell) && (!decide (y.2 = .local) || !N.contains y.1) && (!decide (y.2 = .free) || decide (sc.names.lookup y.1 = some .cell))
theorem lamN_by {N : List Str} {sc scope : Scope} (h : lamNB N sc scope = true) : LamN N sc scope := by
  unfold lamNB at h
  simp only [Bool.and_eq_true, Bool.or_eq_true, Bool.not_eq_true', decide_eq_true_eq, decide_eq_false_iff_not, List.all_eq_true] at h
  obtain ⟨⟨⟨h1, h2⟩, h3⟩, h4⟩ := h
  refine ⟨h1, h2, h3, fun y hy => (h4 y hy).1.1, fun y hy e m => ?_, fun y hy e => ?_⟩
  · rcases (h4 y hy).1.2 with z | z
    · exact z e
    · rw [List.contains_iff_mem.mpr m] at z
      cases z
  · rcases (h4 y hy).2 with z | z
    · exact absurd e z
    · exact z
section
variable {X : Cx} {pins : List (Addr × Obj)} {σ : L2.St} {H HZ : Hp} {s s1 : Shared}
theorem lam_begin {A : Around} {outer : List Env} {E : XK} {scope : Scope} {f c' : Addr} {h₁ : Heap} {tk : Nat} {mL : Str → Option Value} (I : Inv X pins σ H s) (L : LamN X.N X.env.scope scope) (e0 : Env0 X.prog X.w X.K X.mg X.base A outer s1 HZ) (hd : A.handled = none)
    (un : Un (frs X.stack) [] H HZ s.heap s1.heap) (hns : h₁.Ns s1.heap.objs.size mL) (kp : ∀ b o, s1.heap.get? b = some o → h₁.get? b = some o) :
    Inv (lamCx X A outer s1 HZ E scope f c') [] σ HZ { s1 with heap := h₁, toks := tk } := by
  have has : ∀ {y}, (y, NameKind.free) ∈ scope.names → ∃ c, X.env.cells.lookup y = some c := fun {y} hy => I.ok.has _ (.inl (L.free _ hy rfl))
  have cm : ∀ {y c}, (cloFrom X.env.cells scope.names []).lookup y = some c → X.env.cells.lookup y = some c := fun {y c} e => by
    rcases cloFrom_mem (PySem.mem_of_lookup e) with m | ⟨m, r⟩
    · cases m
    · obtain ⟨c1, hc⟩ := has m
      rw [r, hc]
      rfl
  have look : ∀ {y}, scope.names.lookup y = some .free → ∃ c, (cloFrom X.env.cells scope.names []).lookup y = some c := fun {y} hl => mem_lookup (cloFrom_has (cells := X.env.cells) (acc := []) (PySem.mem_of_lookup hl))
  have cellK : ∀ {c : Addr} {v : Option Value}, H c = none → s.heap.IsCell c v → h₁.IsCell c v := fun {c v} n ⟨o, ho, hd⟩ => by
    obtain ⟨sl, q⟩ := un.any ho n (by simp)
    exact ⟨_, kp _ _ q, hd⟩
  have no : ∀ b : Addr, b ∉ (lamCx X A outer s1 HZ E scope f c').ex := fun b z => absurd (show b ∈ ([] : List Addr) from z) (by simp)
  refine ⟨⟨e0.mod, L.kind, rfl, rfl, Nat.le_refl _, fun y z c e1 e2 => I.ok.inj y z c (cm e1) (cm e2), fun y hy => ?_, fun y c z _ => ?_, fun _ => hd, Around.frames_deeper e0.frames, .inr ⟨rfl, rfl⟩, fun b z => absurd z (no b), e0.bs, e0.bsz, fun b _ _ => no b, fun b z => absurd z (no b), e0.funs, e0.frf⟩,
    rfl, e0.bare, Un.kept kp, ⟨mL, hns, fun i y v e1 e2 e3 => ?_⟩, fun y c e => ?_, e0.hok.fresh (Nat.le_refl _), fun y c e => ?_, fun q hq => absurd (show q ∈ ([] : List (Addr × Obj)) ++ [] from hq) (by simp), e0.hok.kept kp, I.len⟩
  · have hy : scope.names.lookup y = some .cell ∨ scope.names.lookup y = some .free := hy
    rcases hy with hy | hy
    · exact absurd rfl (L.cell _ (PySem.mem_of_lookup hy))
    · exact look hy
  · have z : false = true := z
    cases z
  · have e3 : Vis scope y := e3
    rcases e3 with k | k | k
    · exact absurd (List.mem_of_getElem? e1) (L.own _ (PySem.mem_of_lookup k) rfl)
    · exact absurd rfl (L.cell _ (PySem.mem_of_lookup k))
    · obtain ⟨m, hn, hl⟩ := I.loc
      have kc := L.free _ (PySem.mem_of_lookup k) rfl
      obtain ⟨w', r, q⟩ := hl i y v e1 e2 (.inr (.inl kc))
      obtain ⟨c2, h2⟩ := look k
      refine ⟨w', r, .inr ⟨.inr k, c2, h2, ?_⟩⟩
      have c1 := cm h2
      rcases q with ⟨k', _⟩ | ⟨_, c3, e', z⟩
      · have k' : X.env.scope.names.lookup y = some .local := k'
        rw [show X.env.scope.names.lookup y = some .cell from kc] at k'
        cases k'
      · rw [c1] at e'
        cases e'
        exact cellK (I.freeC y _ c1) z
  · obtain ⟨w', z⟩ := I.cell y c (cm e)
    exact ⟨w', cellK (I.freeC y c (cm e)) z⟩
  · obtain ⟨v, o, ho, hd⟩ := I.cell y c (cm e)
    exact un.free c o ho (I.freeC y c (cm e)) (by simp)
/-- what the lambda binds when it is called bare -/
def BindV (scope : Scope) (q : Str) (params : Arguments) (body : Expr) (cl : List (Str × Addr)) (c' : Addr) (dV : Value) (HZ : Hp) : Prop :=
  ∀ (P : Program) (w : World) (h : Heap), HOk P w HZ h → ∀ (pm ctv : Value), ∃ bs : List (Str × Value), (∀ y ∈ bs, scope.names.lookup y.1 = some .local) ∧ ∀ (M : Model) (A : Around) (Q : List (Str × Value) → Shared → Prop) (E : Value → Shared → Prop) (z : Shared), z.heap = h → Q bs z → wpAny M A (bindArgs (lfn q params body scope cl pm (.ref c') ctv dV) ⟨[], []⟩) Q E z
/-- calling f in the def g: by the reading tl -/
def ActOk (X : Cx) (Ng : List Str) (x : Str) (sg : Scope) (g : Addr) (cdg : Value) (a q : Str) (k : Nat) (f c' : Addr) (σ : L2.St) (tl : XK → Hp → VK → Prop) : Prop :=
  ∀ (pins : List (Addr × Obj)) (s : Shared) (H : Hp), Inv X pins σ H s → Room (k + 1) (X.A.deeper (envOfC x sg s.heap.objs.size g cdg)) → ∀ (W : WX) (pn : List (Addr × Obj)) (xe : Value → Shared → Prop) (E : XK) (p1 p2 : Pos),
    Takes ((cxOf C8.CX0 X.prog X.w X.K X.mg X.base Ng x sg g cdg X.A X.stack s H C8.E0).tr pn xe) W → (∀ cls d σ' H', E cls d H' → W cls d σ' H') →
      PE ((cxOf C8.CX0 X.prog X.w X.K X.mg X.base Ng x sg g cdg X.A X.stack s H C8.E0).tr pn xe) (.Call (.Name a p1) [] [] p2) (fun σZ HZ Q => σZ[0]? = some (some (.ref f)) ∧ HZ c' = some (CodeO c' q) ∧ tl E HZ Q)
theorem act_lam {Ng : List Str} {x a q : Str} {sg : Scope} {g f c' : Addr} {cdg dV : Value} {params : Arguments} {body : Expr} {scope : Scope} {k : Nat} {t : XK → TE} (L : LamN X.N X.env.scope scope) (hq : X.env.qual ++ "<lambda>" = q)
    (hbody : ∀ (A : Around) (outer : List Env) (s : Shared) (H : Hp) (E : XK) (f c' : Addr), Room k (A.deeper (lamEnv X scope s.heap.objs.size f c')) → PE (lamCx X A outer s H E scope f c') body (t E))
    (hN : Ng[0]? = some a) (hv : Vis sg a) (hd : (a == ("__debug__" : Str)) = false := by decide) (hcd : (a == ("__classdict__" : Str)) = false := by decide) :
    ActOk X Ng x sg g cdg a q k f c' σ (fun E HZ Q => HZ f = some (LamO f q params body scope (cloFrom X.env.cells scope.names []) c' dV) ∧ BindV scope q params body (cloFrom X.env.cells scope.names []) c' dV HZ ∧ t E σ HZ Q) := by
  intro pins s H I hr W pn xe E p1 p2 tk hW
  refine ⟨fun pinsZ sZ σZ HZ Q IZ h => ?_⟩
  obtain ⟨hs, hc, hf, hbd, ht⟩ := h
  refine wpAny_Call_Name_kw (thn ((pe_var (pos := p1) (i := 0) hN hv hd hcd).run pinsZ sZ σZ HZ (fun v H1 => v = .ref f ∧ H1 = HZ) IZ ⟨.ref f, hs, rfl, rfl⟩) fun u s1 ⟨v, H1, I1, r1, ev, eH⟩ => ?_)
  subst ev
  rw [eH] at I1
  obtain rfl : u = Value.ref f := r1
  obtain ⟨⟨pm, ctv, of1⟩, _, _⟩ := I1.hok f _ hf
  refine PySem.W.callWith_F0 ⟨_, _, _, _, of1⟩ ?_
  have un : Un (frs X.stack) [] H HZ s.heap s1.heap := I1.base
  obtain ⟨⟨oc, vs, tq, hoc, hdc, hvc⟩, _, _⟩ := I1.hok c' _ hc
  obtain ⟨bs, hbs, hbind⟩ := hbd X.prog X.w s1.heap I1.hok pm ctv
  have rc : codeAny (model X.prog X.w) (X.A.deeper (envOfC x sg s.heap.objs.size g cdg)) (.call (.ref f) ⟨[], []⟩) (CR (L2.CX X.prog X.w) (envOfC x sg s.heap.objs.size g cdg :: X.stack) X.prog X.w HZ s1 Q E) s1 := by
    refine PySem.W.kla_callFunE hr.depth of1 rfl L.co L.gen rfl ⟨c', oc, vs, tq, rfl, hoc, hdc, hvc⟩ ?_
    refine hbind _ _ _ _ s1 rfl (wpAny_newFunctionEnv L.cell hbs (fun h₁ hns hsb => ⟨I1.nolimit.fresh _ hsb, ?_⟩) L.kind)
    subst hq
    show codeAny _ _ (.expr body (lamEnv X scope s1.heap.objs.size f c')) _ _
    have kp : ∀ b o, s1.heap.get? b = some o → h₁.get? b = some o := fun b o e => hsb.extBut b o (Nat.ne_of_lt (Heap.lt_size e)) (Heap.get?_push_of_some _ e)
    have J : Inv (lamCx X (X.A.deeper (envOfC x sg s.heap.objs.size g cdg)) (envOfC x sg s.heap.objs.size g cdg :: X.stack) s1 HZ E scope f c') [] σ HZ { s1 with heap := h₁, toks := s1.toks + bs.length } := lam_begin I L I1.env0 hr.hd un hns kp
    refine PySem.W.kla_codeExpr (wpAny_mono ((hbody _ _ s1 HZ E f c' (hr.deeper _)).run [] _ _ HZ Q J ht) (fun v z hq => ?_) fun e z hq => hq)
    obtain ⟨w', H', J', rv, q'⟩ := hq
    exact ⟨w', H', J'.os, J'.bare, J'.base, J'.hok, rv, q'⟩
  have hx : Passes (L2.CX X.prog X.w) ((cxOf C8.CX0 X.prog X.w X.K X.mg X.base Ng x sg g cdg X.A X.stack s H C8.E0).tr pn xe) E := passes_call tk hW
  refine wpAny_call (codeAny_mono rc fun r z hq => ?_)
  cases r with
  | error e => exact hx pinsZ σZ HZ s1 e z I1 hq
  | ok fl =>
    cases fl with
    | ret u => exact I1.after hq
    | next => exact False.elim hq
    | brk => exact False.elim hq
    | cont => exact False.elim hq
/-- .. the function's object under a name -/
theorem act_of {Ng : List Str} {x a q : Str} {sg : Scope} {g f c' : Addr} {cdg dV : Value} {params : Arguments} {body : Expr} {scope : Scope} {k : Nat} {t : XK → TE} {o : HO} (hO : LamO f q params body scope (cloFrom X.env.cells scope.names []) c' dV = o) (L : LamN X.N X.env.scope scope) (hq : X.env.qual ++ "<lambda>" = q)
    (hbody : ∀ (A : Around) (outer : List Env) (s : Shared) (H : Hp) (E : XK) (f c' : Addr), Room k (A.deeper (lamEnv X scope s.heap.objs.size f c')) → PE (lamCx X A outer s H E scope f c') body (t E))
    (hN : Ng[0]? = some a) (hv : Vis sg a) (hd : (a == ("__debug__" : Str)) = false := by decide) (hcd : (a == ("__classdict__" : Str)) = false := by decide) :
    ActOk X Ng x sg g cdg a q k f c' σ (fun E HZ Q => HZ f = some o ∧ BindV scope q params body (cloFrom X.env.cells scope.names []) c' dV HZ ∧ t E σ HZ Q) := by
  subst hO
  exact act_lam L hq hbody hN hv hd hcd
/-- g(y) as the element of a comprehension, y a kept lambda -/
def tAsk (X : Cx) (Ng : List Str) (x : Str) (sg : Scope) (g : Addr) (cdg : Value) (a q : Str) (k j : Nat) (vs : List Nat) (TT : (XK → Hp → VK → Prop) → Hp → VK → Prop) : TE := fun τ G Q =>
  ∃ (f c' : Addr) (tl : XK → Hp → VK → Prop), τ[j]? = some (some (.ref f)) ∧ G c' = some (CodeO c' q) ∧ ActOk X Ng x sg g cdg a q k f c' (wipe τ vs) tl ∧ TT tl G Q
theorem el_ask {TT : (XK → Hp → VK → Prop) → Hp → VK → Prop} {x a y q : Str} {g : Addr} {k j : Nat} {pg : Arguments} {bg : List Stmt} {sg : Scope} {dV kV doc pm cdv ct oc : Value} {an od : Option Addr} {osl : Array (Option Value)} {Ng : List Str} {p py pos : Pos} {vs : List Nat} {s0 : Shared} {H0 : Hp} {scope : Scope} {ce : Env} {fp : List Addr}
    (hg : Gl (X.blk s0 H0 scope ce fp) x) (hm : X.mg x = some (.ref g)) (hk : PySem.W.keepIn X.K (.ref g) = true)
    (lk : X.K.lookup g = some ⟨oc, od, .func (PySem.W.fnOf x x pg bg sg dV kV doc pm an cdv ct), osl⟩) (hcg : PySem.W.codeIn X.K cdv x = true) (hb : L2.Binds X.K (PySem.W.fnOf x x pg bg sg dV kV doc pm an cdv ct) [a] []) (Sg : FnScope Ng [a] sg)
    (hG : GivesTo X Ng x sg g cdv bg a q TT) (hr : Room (k + 2) X.A) (hy : X.N[j]? = some y) (hvy : Vis ce.scope y)
    (hdb : (x == ("__debug__" : Str)) = false := by decide) (hd : (y == ("__debug__" : Str)) = false := by decide) (hcd : (y == ("__classdict__" : Str)) = false := by decide) :
    ElemI X (X.blk s0 H0 scope ce fp) vs (.Call (.Name x p) [.Name y py] [] pos) (tAsk X Ng x sg g cdv a q k j vs TT) := by
  intro pins σw toX pi z τ G Q I ew h
  obtain ⟨f, c', tl, hs, hco, act, tt⟩ := h
  rw [ew] at act
  refine wpAny_Call_Name_kw (ld_glob I hg hm ?_ hdb)
  refine PySem.W.callWith_K (h₀ := X.base) I.ok.mod.kin hk ?_ (by rfl) (by rfl)
  show wpAny _ _ (spliced ((false, eval (.Name y py) ce) :: backTo pos (starEach [] ce))) _ _ z
  refine Calls.spliced_cons (thn ((pe_var (X := X.blk s0 H0 scope ce fp) (pos := py) (i := j) hy hvy hd hcd).run pi z τ G (fun v H1 => v = .ref f ∧ H1 = G) I ⟨.ref f, hs, rfl, rfl⟩) fun u s1 ⟨v, H1, I1, r1, ev, eH⟩ => ?_)
  subst ev
  rw [eH] at I1
  obtain rfl : u = Value.ref f := r1
  refine Calls.spliced_nil ⟨I1.kIn, ?_⟩
  have J := toX I1
  have rc : codeAny (model X.prog X.w) X.A (.call (.ref g) ⟨[.ref f], []⟩) (CR C8.CX0 X.stack X.prog X.w G s1 Q C8.E0) s1 := by
    refine run_ofS (N := Ng) (ps := [a]) (us := [.ref f]) (vs := [.ref f]) lk hcg Sg hr J.env0 (hb s1 [.ref f] I1.kIn rfl) (.cons rfl .nil) rfl fun hr' => ?_
    obtain ⟨t', ht', hq'⟩ := hG f c' s1 G Q tl (fun W pn xe E p1 p2 tk hW => act pins s1 G J hr' W pn xe E p1 p2 tk hW) hco tt
    exact ⟨t', ht'.nox, hq'⟩
  refine wpAny_call (codeAny_mono rc fun r s2 hq => ?_)
  cases r with
  | error e => exact (show False from hq).elim
  | ok fl =>
    cases fl with
    | ret u => exact I1.after hq
    | next => exact False.elim hq
    | brk => exact False.elim hq
    | cont => exact False.elim hq
/-- no default: nothing is bound -/
theorem bind0 {scope : Scope} {q : Str} {params : Arguments} {body : Expr} {cl : List (Str × Addr)} {c' : Addr} {HZ : Hp} (h : ∀ (pm cv ctv : Value), bindArgs (lfn q params body scope cl pm cv ctv .none) ⟨[], []⟩ = pure []) : BindV scope q params body cl c' .none HZ :=
  fun P w h0 hok pm ctv => ⟨[], (fun y m => by cases m), fun M A Q E z e qq => by rw [h]; exact wpAny_pure qq⟩
/-- a default: its name takes it -/
theorem bind1 {scope : Scope} {q y : Str} {params : Arguments} {body : Expr} {cl : List (Str × Addr)} {c' t : Addr} {HZ : Hp} {n : Int} (ht : HZ t = some (.tup [.int n])) (hy : scope.names.lookup y = some .local)
    (h : ∀ (pm cv ctv u : Value), ∃ k, bindArgs (lfn q params body scope cl pm cv ctv (.ref t)) ⟨[], []⟩ = seqItems? (.ref t) >>= k ∧ k (some #[u]) = pure [(y, u)]) : BindV scope q params body cl c' (.ref t) HZ := by
  intro P w h0 hok pm ctv
  obtain ⟨_, its, r, o, h1, h2, m, h3⟩ := (show ObjOk P w HZ h0 t (.tup [.int n]) from hok t _ ht)
  obtain ⟨u, eu, ru⟩ := vals1 r
  subst eu
  refine ⟨[(y, u)], fun z m => by rw [List.mem_singleton.mp m]; exact hy, fun M A Q E z e qq => ?_⟩
  obtain ⟨k, e1, e2⟩ := h pm (.ref c') ctv u
  rw [e1]
  refine wpAny_bind (wpAny_seqItems (by rw [e]; exact h1) h3 ?_)
  rw [e2]
  exact wpAny_pure qq
end
end LamV

namespace K
open PySem PySem.Spec PyProof.Rows L2
def top (i : Nat) : Stmt := PySem.Challenge.pw_swapslip_k66_goals_that_there_are_none_o.main.body.getD i (.Pass ⟨0, 0, 0, 0⟩)
abbrev sBox : Stmt := top 24
abbrev sTake : Stmt := top 25
section
variable {P : Program} {w : World} {K : PySem.W.Frag} {mg : Str → Option Value} {base : Heap}
theorem scBox : FnScope ["_law_script"] ["_law_script"] (defScope sBox) := ⟨rfl, rfl, rfl, by decide +kernel, rfl, by decide +kernel, by decide +kernel⟩
theorem ok_box {f : Addr} {fd : FuncData} {k : Nat} (F : Fun K "_law_box" "_law_box" sBox f fd) (ml : mg "list" = none) : FnOk P w K mg base CX0 (k + 1) f fd ["_law_script"] (spBox K) := by
  refine F.ok scBox (fun vs H Q E h => ?_) (fun cdv A outer s H vs Q E hr h => ?_)
  · obtain ⟨a, ns, rfl, _⟩ := h
    rfl
  · obtain ⟨a, ns, rfl, hS, hlen, q⟩ := h
    refine ⟨_, pss_one (ps_ret (pe_lst (pa_cons (pe_callTy call_list_of (by rfl) ml (by decide +kernel) (pa_cons (pe_slice sl_list (pv 0) po_none (po_some pe_int)) pa_nil)) (pa_cons pe_int (pa_cons pe_int (pa_cons pe_int pa_nil)))))), ?_⟩
    refine ⟨.ref a, rfl, 63, rfl, a, _, rfl, hS, fun c nc => ?_⟩
    refine ⟨c, _, rfl, .inl (.inl (.inl upd_same)), fun l nl => ?_⟩
    refine ⟨(by show 4 ≤ sizeLine; decide), fun p np => ?_⟩
    have e : ∃ ms : List Int, cutV (ns.map V.int) none (some 63) = ms.map V.int ∧ ms.length ≤ 63 := by
      refine ⟨(ns.drop (HT.sIx ns.length 0 none)).take (HT.sIx ns.length ns.length (some 63) - HT.sIx ns.length 0 none), ?_, ?_⟩
      · unfold cutV
        rw [List.length_map, ← List.map_drop, ← List.map_take]
      · rw [List.length_take, List.length_drop]; omega
    obtain ⟨ms, em, hm⟩ := e
    rw [em] at nl np ⊢
    have s1 := same_upd (o := .lst (ms.map V.int)) nc
    have s2 := same_upd (o := .lst (ms.map V.int)) nl
    have s3 := same_upd (o := .lst [.ref l, .int 0, .int 0, .int 29]) np
    have nlp : l ≠ p := ne_of_none upd_same np
    refine q p l _ (s1.free (s2.free np)) (s1.free nl) ⟨ms, 0, 0, 29, upd_same, ?_, by omega, by omega, by omega, by omega, hm⟩ (s1.trans (s2.trans s3))
    rw [upd_ne nlp, upd_same]
theorem scTake : FnScope ["_law_box_here", "_law_sides", "_law_tail", "_law_cell", "_law_seed"] ["_law_box_here", "_law_sides"] (defScope sTake) := ⟨rfl, rfl, rfl, by decide +kernel, rfl, by decide +kernel, by decide +kernel⟩
theorem ok_take {f : Addr} {fd : FuncData} {k : Nat} (F : Fun K "_law_take" "_law_take" sTake f fd) (mlen : mg "len" = none) : FnOk P w K mg base CX0 (k + 1) f fd ["_law_box_here", "_law_sides"] spTake := by
  refine F.ok scTake (fun vs H Q E h => ?_) (fun cdv A outer s H vs Q E hr h => ?_)
  · obtain ⟨p, q, n, rfl, _⟩ := h
    rfl
  · obtain ⟨p, q, n, rfl, hB, hn, hn2, kk⟩ := h
    refine ⟨_, pss_cons (ps_if (pt_cmpR op_gt (pe_ix ix_list (pv 0) pe_int (fun _ _ => rfl)) pe_int (nomark _))
        (pss_cons (ps_set (i := 2) scTake.nd rfl (.inl rfl) (pe_ix ix_list (pv 0) pe_int (fun _ _ => rfl)))
        (pss_cons (ps_asg (pe_op op_fdivN (pv 2) (pv 1)) (pg_sub (pv 0) pe_int set_list))
        (pss_one (ps_ret (pe_op op_modN (pv 2) (pv 1)))))) pss_nil)
      (pss_cons (ps_set (i := 3) scTake.nd rfl (.inl rfl) pe_int)
      (pss_cons (ps_if (pt_cmpR op_lt (pe_ix ix_list (pv 0) pe_int (fun _ _ => rfl)) (pe_callB call_len_seq (by rfl) mlen PySem.boot_len (pa_cons (pe_ix ix_list (pv 0) pe_int (fun _ _ => rfl)) pa_nil)) (nomark _))
        (pss_cons (ps_set (i := 3) scTake.nd rfl (.inl rfl) (pe_ix ix_list (pe_ix ix_list (pv 0) pe_int (fun _ _ => rfl)) (pe_ix ix_list (pv 0) pe_int (fun _ _ => rfl)) (fun _ _ => rfl)))
        (pss_one (ps_augS (pv 0) pe_int get_listA pe_int ip_add set_list))) pss_nil)
      (pss_cons (ps_if (pt_cmpR op_ge (pv 3) (pe_op op_pow pe_int pe_int) (nomark _))
        (pss_cons (ps_asg (pe_op op_fdivN (pv 3) (pv 1)) (pg_sub (pv 0) pe_int set_list))
        (pss_one (ps_ret (pe_op op_modN (pv 3) (pv 1))))) pss_nil)
      (pss_cons (ps_set (i := 4) scTake.nd rfl (.inl rfl) (pe_ix ix_list (pv 0) pe_int (fun _ _ => rfl)))
      (pss_cons (ps_asg (pe_op op_modN (pe_op op_add (pe_op op_add (pe_op op_add (pe_op op_pow (pv 4) pe_int) (pe_op op_mul pe_int (pv 4))) (pe_op op_mul pe_int (pe_op op_modN (pv 3) pe_int))) pe_int) pe_int) (pg_sub (pv 0) pe_int set_list))
      (pss_one (ps_ret (pe_op op_modN (pe_op op_fdivN (pe_ix ix_list (pv 0) pe_int (fun _ _ => rfl)) pe_int) (pv 1))))))))), ?_⟩
    obtain ⟨ns, i, t, sd, h1, h2, hi0, hi1, hs0, hs1, hl⟩ := id hB
    have npq := hB.ne
    refine ⟨_, rfl, p, _, 2, _, rfl, rfl, SqL.of h1, rfl, _, _, rfl, rfl, _, rfl, ?_⟩
    refine ite2 (fun c => ?_) (fun c => ?_)
    · refine ⟨_, rfl, p, _, 2, _, rfl, rfl, SqL.of h1, rfl, ?_⟩
      refine ⟨_, rfl, _, rfl, t, n, rfl, rfl, ⟨by omega, by omega⟩, _, rfl, p, _, 2, 2, rfl, rfl, h1, rfl, ?_⟩
      refine ⟨_, rfl, _, rfl, t, n, rfl, rfl, (by show n ≠ 0; omega), ?_⟩
      refine kk _ _ (fmod_le hn).1 (fmod_le hn).2 ⟨ns, i, _, sd, upd_same, by rw [upd_ne npq.symm]; exact h2, hi0, hi1, hs0, hs1, hl⟩ But.put
    · -- the cell: some int, the box with another place
      refine ⟨_, rfl, p, _, 1, _, rfl, rfl, SqL.of h1, rfl, _, rfl, p, _, 0, _, rfl, rfl, SqL.of h1, rfl, q, _, rfl, .inl (SqL.of h2), _, _, rfl, rfl, _, rfl, ?_⟩
      rw [List.length_map]
      refine ite2 (fun c => ?_) (fun c => ?_)
      · have hlt : i.toNat < ns.length := by have := of_decide_eq_true c; omega
        have hat : (ns.map V.int)[i.toNat]? = some (.int ns[i.toNat]) := by rw [List.getElem?_map, List.getElem?_eq_getElem hlt]; rfl
        refine ⟨_, rfl, p, _, 0, _, rfl, rfl, SqL.of h1, rfl, _, rfl, p, _, 1, _, rfl, rfl, SqL.of h1, rfl, q, _, i, _, rfl, rfl, SqL.of h2, atI0 hi0 hat, ?_⟩
        refine ⟨_, rfl, p, _, 1, _, rfl, rfl, SqL.of h1, by omega, rfl, i, 1, rfl, rfl, p, _, 1, 1, rfl, rfl, h1, rfl, ?_⟩
        generalize ns[i.toNat] = cell
        have g1 : (upd H p (.lst [.ref q, .int (i + 1), .int t, .int sd])) p = some (.lst [.ref q, .int (i + 1), .int t, .int sd]) := upd_same
        have g2 : (upd H p (.lst [.ref q, .int (i + 1), .int t, .int sd])) q = some (.lst (ns.map V.int)) := by rw [upd_ne npq.symm]; exact h2
        have gi0 : 0 ≤ i + 1 := by omega
        have gi1 : i + 1 ≤ ns.length := by omega
        have gb : But p H (upd H p (.lst [.ref q, .int (i + 1), .int t, .int sd])) := But.put
        show tSeq _ _ _ _ (upd H p (.lst [.ref q, .int (i + 1), .int t, .int sd]))
        generalize upd H p (.lst [.ref q, .int (i + 1), .int t, .int sd]) = H2 at g1 g2 gb ⊢
        generalize i + 1 = i2 at g1 gi0 gi1
        refine ⟨_, rfl, 10, 18, rfl, rfl, ⟨by decide, by decide, by decide⟩, _, _, rfl, rfl, _, rfl, ?_⟩
        refine ite2 (fun c2 => ?_) (fun c2 => ?_)
        · refine ⟨_, rfl, _, rfl, _, n, rfl, rfl, ⟨by omega, by omega⟩, _, rfl, p, _, 2, 2, rfl, rfl, g1, rfl, ?_⟩
          refine ⟨_, rfl, _, rfl, _, n, rfl, rfl, (by show n ≠ 0; omega), ?_⟩
          exact kk _ _ (fmod_le hn).1 (fmod_le hn).2 ⟨ns, _, _, sd, upd_same, by rw [upd_ne npq.symm]; exact g2, gi0, gi1, hs0, hs1, hl⟩ (gb.trans But.put)
        · refine ⟨_, rfl, p, _, 3, _, rfl, rfl, SqL.of g1, rfl, ?_⟩
          refine ⟨_, rfl, sd, 3, rfl, rfl, ⟨by decide, by decide, by omega⟩, _, rfl, 69621, sd, rfl, rfl, .inl ⟨by decide, by decide⟩, _, _, rfl, rfl, _, rfl, _, 2147483549, rfl, rfl, (by decide : (2147483549 : Int) ≠ 0),
            48271, _, rfl, rfl, .inl ⟨by decide, by decide⟩, _, _, rfl, rfl, _, _, rfl, rfl, _, 2147483549, rfl, rfl, (by decide : (2147483549 : Int) ≠ 0), _, rfl, p, _, 3, 3, rfl, rfl, g1, rfl, ?_⟩
          refine ⟨_, rfl, p, _, 3, _, rfl, rfl, SqL.of upd_same, rfl, _, 64, rfl, rfl, ⟨by decide, by decide⟩, _, rfl, _, n, rfl, rfl, (by show n ≠ 0; omega), ?_⟩
          exact kk _ _ (fmod_le hn).1 (fmod_le hn).2 ⟨ns, _, _, _, upd_same, by rw [upd_ne npq.symm]; exact g2, gi0, gi1, (fmod_le (by decide)).1, (fmod_le (by decide)).2, hl⟩ (gb.trans But.put)
      · have g1 := h1
        have g2 := h2
        have gi0 := hi0
        have gi1 := hi1
        have gb := But.refl p H
        refine ⟨_, rfl, 10, 18, rfl, rfl, ⟨by decide, by decide, by decide⟩, _, _, rfl, rfl, _, rfl, ?_⟩
        refine ite2 (fun c2 => ?_) (fun c2 => ?_)
        · refine ⟨_, rfl, _, rfl, _, n, rfl, rfl, ⟨by omega, by omega⟩, _, rfl, p, _, 2, 2, rfl, rfl, g1, rfl, ?_⟩
          refine ⟨_, rfl, _, rfl, _, n, rfl, rfl, (by show n ≠ 0; omega), ?_⟩
          exact kk _ _ (fmod_le hn).1 (fmod_le hn).2 ⟨ns, _, _, sd, upd_same, by rw [upd_ne npq.symm]; exact g2, gi0, gi1, hs0, hs1, hl⟩ (gb.trans But.put)
        · refine ⟨_, rfl, p, _, 3, _, rfl, rfl, SqL.of g1, rfl, ?_⟩
          refine ⟨_, rfl, sd, 3, rfl, rfl, ⟨by decide, by decide, by omega⟩, _, rfl, 69621, sd, rfl, rfl, .inl ⟨by decide, by decide⟩, _, _, rfl, rfl, _, rfl, _, 2147483549, rfl, rfl, (by decide : (2147483549 : Int) ≠ 0),
            48271, _, rfl, rfl, .inl ⟨by decide, by decide⟩, _, _, rfl, rfl, _, _, rfl, rfl, _, 2147483549, rfl, rfl, (by decide : (2147483549 : Int) ≠ 0), _, rfl, p, _, 3, 3, rfl, rfl, g1, rfl, ?_⟩
          refine ⟨_, rfl, p, _, 3, _, rfl, rfl, SqL.of upd_same, rfl, _, 64, rfl, rfl, ⟨by decide, by decide⟩, _, rfl, _, n, rfl, rfl, (by show n ≠ 0; omega), ?_⟩
          exact kk _ _ (fmod_le hn).1 (fmod_le hn).2 ⟨ns, _, _, _, upd_same, by rw [upd_ne npq.symm]; exact g2, gi0, gi1, (fmod_le (by decide)).1, (fmod_le (by decide)).2, hl⟩ (gb.trans But.put)
end
end K

namespace K
open PySem PySem.Spec PyProof.Rows L2
abbrev sSame : Stmt := top 26
section
variable {P : Program} {w : World} {K : PySem.W.Frag} {mg : Str → Option Value} {base : Heap}
theorem scSame : FnScope ["_law_found", "_law_due", "_law_x", "_law_y"] ["_law_found", "_law_due"] (defScope sSame) := ⟨rfl, rfl, rfl, by decide +kernel, rfl, by decide +kernel, by decide +kernel⟩
structure SameTxt (mg : Str → Option Value) : Prop where
  isi : mg "isinstance" = none
  lst : mg "list" = none
  tup : mg "tuple" = none
  bool : mg "bool" = none
  int : mg "int" = none
  str : mg "str" = none
  len : mg "len" = none
  all : mg "all" = none
  zip : mg "zip" = none
theorem ok_same {f : Addr} {fd : FuncData} (F : Fun K "_law_same" "_law_same" sSame f fd) (T : SameTxt mg) (gf : mg "_law_same" = some (.ref f)) (b : Binds K fd ["_law_found", "_law_due"] []) : ∀ n : Nat, FnOk P w K mg base CX0 n f fd ["_law_found", "_law_due"] (spSame n)
  | 0 => fnok_never fun vs H Q E ⟨x, y, _, h, _⟩ => h
  | n + 1 => by
    have G := ok_same F T gf b n
    refine F.ok scSame (fun vs H Q E h => ?_) (fun cdv A outer s H vs Q E hr h => ?_)
    · obtain ⟨x, y, rfl, _⟩ := h
      rfl
    · obtain ⟨x, y, rfl, hE, kk⟩ := h
      refine ⟨_, pss_cons (ps_if (pt_val (pe_callB call_isiT (by rfl) T.isi (by decide +kernel) (pa_cons (pv 1) (pa_cons (pe_tup (pa_cons (pe_bltn (v := .ty "list") (by rfl) T.lst (by decide +kernel) rfl) (pa_cons (pe_bltn (v := .ty "tuple") (by rfl) T.tup (by decide +kernel) rfl) pa_nil))) pa_nil))))
          (pss_cons (ps_if (PW.pt (pw_or (pt_cmpR op_ne (pe_callB call_isi (by rfl) T.isi (by decide +kernel) (pa_cons (pv 0) (pa_cons (pe_bltn (v := .ty "list") (by rfl) T.lst (by decide +kernel) rfl) pa_nil)))
                (pe_callB call_isi (by rfl) T.isi (by decide +kernel) (pa_cons (pv 1) (pa_cons (pe_bltn (v := .ty "list") (by rfl) T.lst (by decide +kernel) rfl) pa_nil))) (nomark _))
              (pw_or1 (pt_cmpR op_ne (pe_callB call_isi (by rfl) T.isi (by decide +kernel) (pa_cons (pv 0) (pa_cons (pe_bltn (v := .ty "tuple") (by rfl) T.tup (by decide +kernel) rfl) pa_nil)))
                (pe_callB call_isi (by rfl) T.isi (by decide +kernel) (pa_cons (pv 1) (pa_cons (pe_bltn (v := .ty "tuple") (by rfl) T.tup (by decide +kernel) rfl) pa_nil))) (nomark _))))) (pss_one (ps_ret pe_bl)) pss_nil)
          (pss_one (ps_ret (pe_and (pe_cmpR op_eq (pe_callB call_len_seq (by rfl) T.len PySem.boot_len (pa_cons (pv 0) pa_nil)) (pe_callB call_len_seq (by rfl) T.len PySem.boot_len (pa_cons (pv 1) pa_nil)) (nomark _))
            (pe_one (pe_callB (cr_all rfl) (by rfl) T.all (by decide +kernel) (pa_cons (pe_lc (own := [("_law_x", 2), ("_law_y", 3)]) (g := gTup K 2 (gCons (gName 2) (gCons (gName 3) gNil))) (tt := tYes) rfl scSame.nd (RZ.pi_zipA (by rfl) T.zip (pa_cons (pv 0) (pa_cons (pv 1) pa_nil)))
                (blkOk_by (own := [("_law_x", 2), ("_law_y", 3)]) (N := ["_law_found", "_law_due", "_law_x", "_law_y"]) (sc := defScope sSame) (by decide +kernel))
                (fun _ _ _ _ _ => by exact (pg_tup rfl (pgs_cons (pg_name (i := 2) scSame.nd rfl (Or.inl rfl)) (pgs_cons (pg_name (i := 3) scSame.nd rfl (Or.inl rfl)) pgs_nil)))) (fun _ _ _ _ _ => pts_nil)
                (fun _ _ _ _ _ => pe_call G hr (by rfl) gf F.kp b .nil pass0 (pa_cons (pv 2) (pa_cons (pv 3) pa_nil)))) pa_nil))))))) pss_nil)
        (pss_cons (ps_if (PW.pt (pw_or (pt_cmpR op_ne (pe_cmpR op_isN (pv 0) pe_non (nomark _)) (pe_cmpR op_isN (pv 1) pe_non (nomark _)) (nomark _))
            (pw_or1 (pt_cmpR op_ne (pe_callB call_isi (by rfl) T.isi (by decide +kernel) (pa_cons (pv 0) (pa_cons (pe_bltn (v := .ty "bool") (by rfl) T.bool (by decide +kernel) rfl) pa_nil)))
                (pe_callB call_isi (by rfl) T.isi (by decide +kernel) (pa_cons (pv 1) (pa_cons (pe_bltn (v := .ty "bool") (by rfl) T.bool (by decide +kernel) rfl) pa_nil))) (nomark _))))) (pss_one (ps_ret pe_bl)) pss_nil)
        (pss_cons (ps_if (pt_cmpR op_ne (pe_callB call_isi (by rfl) T.isi (by decide +kernel) (pa_cons (pv 0) (pa_cons (pe_bltn (v := .ty "int") (by rfl) T.int (by decide +kernel) rfl) pa_nil)))
                (pe_callB call_isi (by rfl) T.isi (by decide +kernel) (pa_cons (pv 1) (pa_cons (pe_bltn (v := .ty "int") (by rfl) T.int (by decide +kernel) rfl) pa_nil))) (nomark _)) (pss_one (ps_ret pe_bl)) pss_nil)
        (pss_one (ps_ret (pe_and (pe_cmpR op_eq (pe_callB call_isi (by rfl) T.isi (by decide +kernel) (pa_cons (pv 0) (pa_cons (pe_bltn (v := .ty "str") (by rfl) T.str (by decide +kernel) rfl) pa_nil)))
                (pe_callB call_isi (by rfl) T.isi (by decide +kernel) (pa_cons (pv 1) (pa_cons (pe_bltn (v := .ty "str") (by rfl) T.str (by decide +kernel) rfl) pa_nil))) (nomark _)) (pe_one (pe_cmpR op_eq (pv 0) (pv 1) (nomark _)))))))), ?_⟩
      refine ⟨_, rfl, (by show 2 ≤ sizeLine; decide), fun t nt => ?_⟩
      have s0 : Same H (upd H t (.tup [.ty "list", .ty "tuple"])) := same_upd nt
      have hE1 := Eqv.same s0 hE
      have ht : (upd H t (.tup [.ty "list", .ty "tuple"])) t = some (.tup [.ty "list", .ty "tuple"]) := upd_same
      rcases hE1 with ⟨e, hf⟩ | ⟨a1, a2, xs, ys, rfl, rfl, hab, hl, hz, hi⟩
      · -- flat
        subst e
        cases x with
        | non =>
          refine ⟨_, t, [.ty "list", .ty "tuple"], _, [.type "list", .type "tuple"], false, rfl, ht, .cons (.ty _) (.cons (.ty _) .nil), (.base .non), kit2 (b := false) (c := false) (by decide +kernel) (by decide +kernel), ?_⟩
          refine ⟨_, rfl, iteF ?_⟩
          refine ⟨_, rfl, rfl, _, rfl, rfl, rfl, _, rfl, iteNS rfl ?_⟩
          refine ⟨_, rfl, _, _, _, _, false, rfl, .ty _, (.base .non), kit_ty (by decide +kernel), ?_⟩
          refine ⟨_, rfl, _, _, _, _, false, rfl, .ty _, (.base .non), kit_ty (by decide +kernel), ?_⟩
          refine ⟨rfl, _, rfl, iteNS rfl ?_⟩
          refine ⟨_, rfl, _, _, _, _, false, rfl, .ty _, (.base .non), kit_ty (by decide +kernel), ?_⟩
          refine ⟨_, rfl, _, _, _, _, false, rfl, .ty _, (.base .non), kit_ty (by decide +kernel), ?_⟩
          refine ⟨rfl, _, rfl, iteNS rfl ?_⟩
          refine ⟨_, rfl, _, _, _, _, false, rfl, .ty _, (.base .non), kit_ty (by decide +kernel), ?_⟩
          refine ⟨_, rfl, _, _, _, _, false, rfl, .ty _, (.base .non), kit_ty (by decide +kernel), ?_⟩
          refine ⟨rfl, _, rfl, ?_⟩
          rw [decide_eq_true rfl]
          refine iteT ⟨_, rfl, _, rfl, rfl, ?_⟩
          rw [decide_eq_true rfl]
          exact kk _ s0
        | bl v =>
          refine ⟨_, t, [.ty "list", .ty "tuple"], _, [.type "list", .type "tuple"], false, rfl, ht, .cons (.ty _) (.cons (.ty _) .nil), (.base (.bl v)), kit2 (b := false) (c := false) (by decide +kernel) (by decide +kernel), ?_⟩
          refine ⟨_, rfl, iteF ?_⟩
          refine ⟨_, rfl, rfl, _, rfl, rfl, rfl, _, rfl, iteNS rfl ?_⟩
          refine ⟨_, rfl, _, _, _, _, true, rfl, .ty _, (.base (.bl v)), kit_ty (by decide +kernel), ?_⟩
          refine ⟨_, rfl, _, _, _, _, true, rfl, .ty _, (.base (.bl v)), kit_ty (by decide +kernel), ?_⟩
          refine ⟨rfl, _, rfl, iteNS rfl ?_⟩
          refine ⟨_, rfl, _, _, _, _, true, rfl, .ty _, (.base (.bl v)), kit_ty (by decide +kernel), ?_⟩
          refine ⟨_, rfl, _, _, _, _, true, rfl, .ty _, (.base (.bl v)), kit_ty (by decide +kernel), ?_⟩
          refine ⟨rfl, _, rfl, iteNS rfl ?_⟩
          refine ⟨_, rfl, _, _, _, _, false, rfl, .ty _, (.base (.bl v)), kit_ty (by decide +kernel), ?_⟩
          refine ⟨_, rfl, _, _, _, _, false, rfl, .ty _, (.base (.bl v)), kit_ty (by decide +kernel), ?_⟩
          refine ⟨rfl, _, rfl, ?_⟩
          rw [decide_eq_true rfl]
          refine iteT ⟨_, rfl, _, rfl, rfl, ?_⟩
          rw [decide_eq_true rfl]
          exact kk _ s0
        | int v =>
          refine ⟨_, t, [.ty "list", .ty "tuple"], _, [.type "list", .type "tuple"], false, rfl, ht, .cons (.ty _) (.cons (.ty _) .nil), (.base (.int v)), kit2 (b := false) (c := false) (by decide +kernel) (by decide +kernel), ?_⟩
          refine ⟨_, rfl, iteF ?_⟩
          refine ⟨_, rfl, rfl, _, rfl, rfl, rfl, _, rfl, iteNS rfl ?_⟩
          refine ⟨_, rfl, _, _, _, _, false, rfl, .ty _, (.base (.int v)), kit_ty (by decide +kernel), ?_⟩
          refine ⟨_, rfl, _, _, _, _, false, rfl, .ty _, (.base (.int v)), kit_ty (by decide +kernel), ?_⟩
          refine ⟨rfl, _, rfl, iteNS rfl ?_⟩
          refine ⟨_, rfl, _, _, _, _, true, rfl, .ty _, (.base (.int v)), kit_ty (by decide +kernel), ?_⟩
          refine ⟨_, rfl, _, _, _, _, true, rfl, .ty _, (.base (.int v)), kit_ty (by decide +kernel), ?_⟩
          refine ⟨rfl, _, rfl, iteNS rfl ?_⟩
          refine ⟨_, rfl, _, _, _, _, false, rfl, .ty _, (.base (.int v)), kit_ty (by decide +kernel), ?_⟩
          refine ⟨_, rfl, _, _, _, _, false, rfl, .ty _, (.base (.int v)), kit_ty (by decide +kernel), ?_⟩
          refine ⟨rfl, _, rfl, ?_⟩
          rw [decide_eq_true rfl]
          refine iteT ⟨_, rfl, _, rfl, rfl, ?_⟩
          rw [decide_eq_true rfl]
          exact kk _ s0
        | str v =>
          refine ⟨_, t, [.ty "list", .ty "tuple"], _, [.type "list", .type "tuple"], false, rfl, ht, .cons (.ty _) (.cons (.ty _) .nil), (.base (.str v)), kit2 (b := false) (c := false) (by decide +kernel) (by decide +kernel), ?_⟩
          refine ⟨_, rfl, iteF ?_⟩
          refine ⟨_, rfl, rfl, _, rfl, rfl, rfl, _, rfl, iteNS rfl ?_⟩
          refine ⟨_, rfl, _, _, _, _, false, rfl, .ty _, (.base (.str v)), kit_ty (by decide +kernel), ?_⟩
          refine ⟨_, rfl, _, _, _, _, false, rfl, .ty _, (.base (.str v)), kit_ty (by decide +kernel), ?_⟩
          refine ⟨rfl, _, rfl, iteNS rfl ?_⟩
          refine ⟨_, rfl, _, _, _, _, false, rfl, .ty _, (.base (.str v)), kit_ty (by decide +kernel), ?_⟩
          refine ⟨_, rfl, _, _, _, _, false, rfl, .ty _, (.base (.str v)), kit_ty (by decide +kernel), ?_⟩
          refine ⟨rfl, _, rfl, iteNS rfl ?_⟩
          refine ⟨_, rfl, _, _, _, _, true, rfl, .ty _, (.base (.str v)), kit_ty (by decide +kernel), ?_⟩
          refine ⟨_, rfl, _, _, _, _, true, rfl, .ty _, (.base (.str v)), kit_ty (by decide +kernel), ?_⟩
          refine ⟨rfl, _, rfl, ?_⟩
          rw [decide_eq_true rfl]
          refine iteT ⟨_, rfl, _, rfl, rfl, ?_⟩
          rw [decide_eq_true rfl]
          exact kk _ s0
        | byt v => cases hf
        | flt v => cases hf
        | ref v => cases hf
        | ty v => cases hf
      · rcases hab with ⟨h1, h2⟩ | ⟨h1, h2⟩
        · refine ⟨_, t, [.ty "list", .ty "tuple"], _, [.type "list", .type "tuple"], true, rfl, ht, .cons (.ty _) (.cons (.ty _) .nil), .base (.lst h2), kit2 (b := true) (c := false) (by decide +kernel) (by decide +kernel), ?_⟩
          refine ⟨_, rfl, iteT ?_⟩
          refine ⟨_, rfl, _, _, _, _, true, rfl, .ty _, .base (.lst h1), kit_ty (by decide +kernel), ?_⟩
          refine ⟨_, rfl, _, _, _, _, true, rfl, .ty _, .base (.lst h2), kit_ty (by decide +kernel), ?_⟩
          refine ⟨rfl, _, rfl, iteNS rfl ?_⟩
          refine ⟨_, rfl, _, _, _, _, false, rfl, .ty _, .base (.lst h1), kit_ty (by decide +kernel), ?_⟩
          refine ⟨_, rfl, _, _, _, _, false, rfl, .ty _, .base (.lst h2), kit_ty (by decide +kernel), ?_⟩
          refine ⟨rfl, _, rfl, iteNS rfl ?_⟩
          refine ⟨_, rfl, a1, xs, rfl, .inl (SqL.of h1), _, rfl, a2, ys, rfl, .inl (SqL.of h2), rfl, _, rfl, ?_⟩
          rw [hl, decide_eq_true rfl]
          refine iteT ?_
          refine ⟨_, rfl, _, rfl, a1, a2, xs, ys, rfl, .inl ⟨SqL.of h1, SqL.of h2, fun D nD => ?_⟩⟩
          refine lc_it (walk_zip (xs := xs) (ys := ys) (n := xs.length) (by rw [hl]; simp)) (fun i H' => Same (upd H t (.tup [.ty "list", .ty "tuple"])) H' ∧ H' D = some (.lst ((List.replicate i true).map V.bl)))
            ⟨same_upd nD, upd_same⟩ (fun i H' _ ⟨s1, _⟩ => ⟨SqL.of (s1 _ _ h1), SqL.of (s1 _ _ h2)⟩) ?_ ?_
          · rintro i x H' H2 hi1 ⟨s1, hD⟩ ⟨T2, x', y', rfl, hT, rfl, f1, f2⟩
            have s2 := same_upd (o := .tup [x', y']) hT
            refine ⟨T2, [x', y'], rfl, .inl (.inl upd_same), rfl, x', [y'], rfl, y', [], rfl, rfl, rfl, ?_⟩
            refine ⟨_, rfl, _, rfl, x', y', rfl, (hi i x' y' f1 f2).same (s1.trans s2), fun H3 s3 => ?_⟩
            refine ⟨_, s3 _ _ (s2 _ _ hD), ?_, ?_, ?_⟩
            · rw [List.length_map, List.length_replicate]; exact small1000 (by omega)
            · intro b o e
              rw [upd_ne (ne_of_none e nD)]
              exact s3 _ _ (s2 _ _ (s1 _ _ e))
            · rw [upd_same, List.replicate_succ', List.map_append]
              rfl
          · rintro H' ⟨s1, hD⟩
            refine ⟨D, List.replicate xs.length true, rfl, .inl (.inl hD), ?_⟩
            have e : (List.replicate xs.length true).all id = true := by simp
            rw [e]
            exact kk _ (s0.trans s1)
        · refine ⟨_, t, [.ty "list", .ty "tuple"], _, [.type "list", .type "tuple"], true, rfl, ht, .cons (.ty _) (.cons (.ty _) .nil), .base (.tup h2), kit2 (b := false) (c := true) (by decide +kernel) (by decide +kernel), ?_⟩
          refine ⟨_, rfl, iteT ?_⟩
          refine ⟨_, rfl, _, _, _, _, false, rfl, .ty _, .base (.tup h1), kit_ty (by decide +kernel), ?_⟩
          refine ⟨_, rfl, _, _, _, _, false, rfl, .ty _, .base (.tup h2), kit_ty (by decide +kernel), ?_⟩
          refine ⟨rfl, _, rfl, iteNS rfl ?_⟩
          refine ⟨_, rfl, _, _, _, _, true, rfl, .ty _, .base (.tup h1), kit_ty (by decide +kernel), ?_⟩
          refine ⟨_, rfl, _, _, _, _, true, rfl, .ty _, .base (.tup h2), kit_ty (by decide +kernel), ?_⟩
          refine ⟨rfl, _, rfl, iteNS rfl ?_⟩
          refine ⟨_, rfl, a1, xs, rfl, .inr (SqT.of h1), _, rfl, a2, ys, rfl, .inr (SqT.of h2), rfl, _, rfl, ?_⟩
          rw [hl, decide_eq_true rfl]
          refine iteT ?_
          refine ⟨_, rfl, _, rfl, a1, a2, xs, ys, rfl, .inr ⟨SqT.of h1, SqT.of h2, fun D nD => ?_⟩⟩
          refine lc_it (walk_zipTT (xs := xs) (ys := ys) (n := xs.length) (by rw [hl]; simp)) (fun i H' => Same (upd H t (.tup [.ty "list", .ty "tuple"])) H' ∧ H' D = some (.lst ((List.replicate i true).map V.bl)))
            ⟨same_upd nD, upd_same⟩ (fun i H' _ ⟨s1, _⟩ => ⟨SqT.of (s1 _ _ h1), SqT.of (s1 _ _ h2)⟩) ?_ ?_
          · rintro i x H' H2 hi1 ⟨s1, hD⟩ ⟨T2, x', y', rfl, hT, rfl, f1, f2⟩
            have s2 := same_upd (o := .tup [x', y']) hT
            refine ⟨T2, [x', y'], rfl, .inl (.inl upd_same), rfl, x', [y'], rfl, y', [], rfl, rfl, rfl, ?_⟩
            refine ⟨_, rfl, _, rfl, x', y', rfl, (hi i x' y' f1 f2).same (s1.trans s2), fun H3 s3 => ?_⟩
            refine ⟨_, s3 _ _ (s2 _ _ hD), ?_, ?_, ?_⟩
            · rw [List.length_map, List.length_replicate]; exact small1000 (by omega)
            · intro b o e
              rw [upd_ne (ne_of_none e nD)]
              exact s3 _ _ (s2 _ _ (s1 _ _ e))
            · rw [upd_same, List.replicate_succ', List.map_append]
              rfl
          · rintro H' ⟨s1, hD⟩
            refine ⟨D, List.replicate xs.length true, rfl, .inl (.inl hD), ?_⟩
            have e : (List.replicate xs.length true).all id = true := by simp
            rw [e]
            exact kk _ (s0.trans s1)
end
end K

namespace K
open PySem PySem.Spec PyProof.Rows L2
open Sw (T3 Dist at? relax roundOf rounds)
abbrev sCheck : Stmt := top 10
section
variable {P : Program} {w : World} {K : PySem.W.Frag} {mg : Str → Option Value} {base : Heap}
theorem scCheck : FnScope ["many", "house"] ["many", "house"] (defScope sCheck) := ⟨rfl, rfl, rfl, by decide +kernel, rfl, by decide +kernel, by decide +kernel⟩
theorem ok_check {f : Addr} {fd : FuncData} {k : Nat} (F : Fun K "check_house" "check_house" sCheck f fd) : FnOk P w K mg base CX0 (k + 1) f fd ["many", "house"] spCheck := by
  refine F.ok scCheck (fun vs H Q E h => ?_) (fun cdv A outer s H vs Q E hr h => ?_)
  · obtain ⟨n, g, rfl, _⟩ := h
    rfl
  · obtain ⟨n, g, rfl, hg, q⟩ := h
    refine ⟨_, pss_one (ps_if (PW.pt (pw_or (pt_cmpR op_lt (pv 1) pe_int (nomark _)) (pw_or1 (pt_cmpR op_ge (pv 1) (pv 0) (nomark _))))) (pss_one ps_never) pss_nil), ?_⟩
    refine ⟨_, rfl, _, _, rfl, rfl, _, rfl, ?_⟩
    rw [decide_eq_false (show ¬ ((g : Int) < 0) by omega)]
    refine iteF ?_
    refine ⟨_, rfl, _, rfl, _, _, rfl, rfl, _, rfl, ?_⟩
    rw [decide_eq_false (show ¬ ((n : Int) ≤ (g : Int)) by omega)]
    exact iteF q
end
end K

namespace K
open PySem PySem.Spec PyProof.Rows L2
open Sw (T3 Dist at? relax roundOf rounds)
abbrev sCheap : Stmt := top 12
abbrev sFar : Stmt := top 13
section
variable {P : Program} {w : World} {K : PySem.W.Frag} {mg : Str → Option Value} {base : Heap}
theorem scCheap : FnScope ["prices", "house", "near", "price", "total"] ["prices", "house", "near", "price"] (defScope sCheap) := ⟨rfl, rfl, rfl, by decide +kernel, rfl, by decide +kernel, by decide +kernel⟩
theorem ok_cheap {f : Addr} {fd : FuncData} {k : Nat} (F : Fun K "cheapen" "cheapen" sCheap f fd) : FnOk P w K mg base CX0 (k + 1) f fd ["prices", "house", "near", "price"] spCheap := by
  refine F.ok scCheap (fun vs H Q E h => ?_) (fun cdv A outer s H vs Q E hr h => ?_)
  · obtain ⟨p, d, a, b, c, rfl, _⟩ := h
    rfl
  · obtain ⟨p, d, a, b, c, rfl, hp, ha, hb, kk⟩ := h
    refine ⟨_, pss_cons (ps_if (pt_cmpR op_isN (pe_ix ix_list (pv 0) (pv 2) (fun _ _ => rfl)) pe_non (nomark _)) (pss_one ps_retN) pss_nil)
      (pss_cons (ps_set (i := 4) scCheap.nd rfl (.inl rfl) (pe_op op_add (pe_ix ix_list (pv 0) (pv 2) (fun _ _ => rfl)) (pv 3)))
      (pss_one (ps_if (PW.pt (pw_or (pt_cmpR op_isN (pe_ix ix_list (pv 0) (pv 1) (fun _ _ => rfl)) pe_non (nomark _)) (pw_or1 (pt_cmpR op_lt (pv 4) (pe_ix ix_list (pv 0) (pv 1) (fun _ _ => rfl)) (nomark _)))))
        (pss_one (ps_asg (pv 4) (pg_sub (pv 0) (pv 1) set_list))) pss_nil))), ?_⟩
    have hA := atI_nat (at_of ha)
    have hB := atI_nat (at_of hb)
    refine ⟨_, rfl, _, rfl, p, _, _, _, rfl, rfl, SqL.of hp, hB, rfl, _, rfl, ?_⟩
    cases eb : at? d b with
    | none =>
      refine iteT ?_
      refine kk H ?_ (But.refl p H)
      unfold relax
      simp only [eb]
      exact hp
    | some y =>
      refine iteF ?_
      rw [eb] at hB
      refine ⟨_, rfl, _, rfl, p, _, _, _, rfl, rfl, SqL.of hp, hB, _, rfl, _, _, rfl, rfl, ?_⟩
      refine ⟨_, rfl, _, rfl, p, _, _, _, rfl, rfl, SqL.of hp, hA, rfl, _, rfl, ?_⟩
      have put : ∀ z : Nat, (z : Int) = (y : Int) + (c : Int) → upd H p (.lst ((d.map ov).set a (.int ((y : Int) + (c : Int))))) p = some (.lst ((d.set a (some z)).map ov)) := fun z hz => by
        rw [upd_same, ← set_ov, ← hz]
        rfl
      cases ea : at? d a with
      | none =>
        refine iteT ?_
        refine ⟨_, rfl, _, rfl, _, rfl, p, _, _, a, rfl, rfl, hp, ?_, ?_⟩
        · rw [List.length_map]; exact ixN_nat ha
        · refine kk _ ?_ But.put
          unfold relax
          simp only [eb, ea]
          exact put (y + c) (by omega)
      | some x =>
        refine iteF ?_
        rw [ea] at hA
        refine ⟨_, rfl, _, rfl, _, rfl, p, _, _, _, rfl, rfl, SqL.of hp, hA, _, _, rfl, rfl, _, rfl, ?_⟩
        refine ite2 (fun l => ?_) (fun l => ?_)
        · have l := of_decide_eq_true l
          refine ⟨_, rfl, _, rfl, _, rfl, p, _, _, a, rfl, rfl, hp, ?_, ?_⟩
          · rw [List.length_map]; exact ixN_nat ha
          · refine kk _ ?_ But.put
            unfold relax
            simp only [eb, ea]
            rw [if_pos (by omega)]
            exact put (y + c) (by omega)
        · have l : ¬ ((y : Int) + (c : Int) < (x : Int)) := fun q => l (decide_eq_true q)
          refine kk H ?_ (But.refl p H)
          unfold relax
          simp only [eb, ea]
          rw [if_neg (by omega)]
          exact hp
theorem scFar : FnScope ["many", "ties", "goal", "prices", "turn", "one", "other", "price"] ["many", "ties", "goal"] (defScope sFar) := ⟨rfl, rfl, rfl, by decide +kernel, rfl, by decide +kernel, by decide +kernel⟩
theorem ok_far {f fC fH : Addr} {fd fdC fdH : FuncData} {k : Nat} (F : Fun K "far" "far" sFar f fd) (FC : Fun K "check_house" "check_house" sCheck fC fdC) (FH : Fun K "cheapen" "cheapen" sCheap fH fdH)
    (gC : mg "check_house" = some (.ref fC)) (gH : mg "cheapen" = some (.ref fH)) (mr : mg "range" = none) (bC : Binds K fdC ["many", "house"] []) (bH : Binds K fdH ["prices", "house", "near", "price"] []) : FnOk P w K mg base CX0 (k + 2) f fd ["many", "ties", "goal"] spFar := by
  have GC : FnOk P w K mg base CX0 (k + 1) fC fdC ["many", "house"] spCheck := ok_check FC
  have GH : FnOk P w K mg base CX0 (k + 1) fH fdH ["prices", "house", "near", "price"] spCheap := ok_cheap FH
  refine F.ok scFar (fun vs H Q E h => ?_) (fun cdv A outer s H vs Q E hr h => ?_)
  · obtain ⟨n, g, t, ts, rfl, _⟩ := h
    rfl
  · obtain ⟨n, g, t, ts, rfl, hg, hn, hT, hF, kk⟩ := h
    refine ⟨_, pss_cons (ps_expr (pe_call GC hr (by rfl) gC FC.kp bC .nil pass0 (pa_cons (pv 0) (pa_cons (pv 2) pa_nil))))
      (pss_cons (ps_set (i := 3) scFar.nd rfl (.inl rfl) (pe_op op_rep (pe_lst (pa_cons pe_non pa_nil)) (pv 0)))
      (pss_cons (ps_asg pe_int (pg_sub (pv 3) (pv 2) set_list))
      (pss_cons (ps_for PassesOwn.never rfl (pi_range1 rfl mr (pa_cons (pv 0) pa_nil)) (pg_name (i := 4) scFar.nd rfl (Or.inl rfl))
        (pss_one (ps_for PassesOwn.never rfl (pi_list (pv 1)) (pg_tup rfl (pgs_cons (pg_name (i := 5) scFar.nd rfl (Or.inl rfl)) (pgs_cons (pg_name (i := 6) scFar.nd rfl (Or.inl rfl)) (pgs_cons (pg_name (i := 7) scFar.nd rfl (Or.inl rfl)) pgs_nil))))
          (pss_cons (ps_expr (pe_call GH hr (by rfl) gH FH.kp bH .nil pass0 (pa_cons (pv 3) (pa_cons (pv 5) (pa_cons (pv 6) (pa_cons (pv 7) pa_nil))))))
          (pss_one (ps_expr (pe_call GH hr (by rfl) gH FH.kp bH .nil pass0 (pa_cons (pv 3) (pa_cons (pv 6) (pa_cons (pv 5) (pa_cons (pv 7) pa_nil))))))))))) 
      (pss_one (ps_ret (pv 3)))))), ?_⟩
    refine ⟨_, rfl, _, rfl, n, g, rfl, hg, ?_⟩
    -- [None] * many
    refine ⟨(by show 1 ≤ sizeLine; decide), fun l nl => ?_⟩
    have s1 : Same H (upd H l (.lst [.non])) := same_upd nl
    refine ⟨_, rfl, l, n, _, rfl, rfl, upd_same, by omega, by omega, ?_, fun p np => ?_⟩
    · rw [Int.toNat_natCast]
      exact Nat.le_of_lt (small1000 (by show 1 * n ≤ 1000; omega))
    rw [Int.toNat_natCast, rep_non]
    have np0 : H p = none := s1.free np
    -- prices[goal] = 0
    refine ⟨_, rfl, _, rfl, p, _, _, g, rfl, rfl, upd_same, ?_, ?_⟩
    · rw [List.length_map, List.length_replicate]; exact ixN_nat hg
    have e0 : ((List.replicate n (none : Option Nat)).map ov).set g (.int 0) = (Sw.start n g).map ov := by
      unfold Sw.start
      rw [← set_ov]
      rfl
    rw [e0]
    -- the rounds
    refine ⟨_, rfl, n, rfl, by omega, by omega, for_range (n := n) (fun i σ H' => ∃ y4 y5 y6 y7, σ = [some (.int (n : Nat)), some (.ref t), some (.int (g : Nat)), some (.ref p), y4, y5, y6, y7] ∧ Same H H' ∧ DistAt H' p (rounds (both ts) i (Sw.start n g)))
      ⟨none, none, none, none, rfl, fun b o e => ?_, upd_same⟩ ?_ ?_⟩
    · rw [upd_ne (ne_of_none e np0), upd_ne (ne_of_none e np0)]
      exact s1 _ _ e
    · rintro i σ H' hi ⟨y4, y5, y6, y7, rfl, sm, hd⟩
      obtain ⟨as, ht, hp⟩ := hT
      have hlen := paired_len hp
      refine ⟨_, rfl, t, rfl, ⟨_, SqL.of (sm _ _ ht)⟩, for_list (K := K) (a := t) (xs := as.map V.ref) (fun j σ H2 => ∃ z5 z6 z7, σ = [some (.int (n : Nat)), some (.ref t), some (.int (g : Nat)), some (.ref p), some (.int (0 + (i : Int))), z5, z6, z7] ∧ Same H H2 ∧ DistAt H2 p (roundOf (both (ts.take j)) (rounds (both ts) i (Sw.start n g))))
        ⟨y5, y6, y7, rfl, sm, hd⟩ (fun j σ H2 _ ⟨_, _, _, _, s2, _⟩ => SqL.of (s2 _ _ ht)) ?_ ?_⟩
      · rintro j y σ H2 hj ⟨z5, z6, z7, rfl, s2, h2⟩
        obtain ⟨a, ea, rfl⟩ := map_ref_at hj
        obtain ⟨e, ee, he⟩ := paired_at hp j a ea
        obtain ⟨e1, e2, e3⟩ := e
        have hb := hF _ (List.mem_of_getElem? ee)
        have hdl : ∀ L, (roundOf L (rounds (both ts) i (Sw.start n g))).length = n := fun L => by rw [Sw.round_len, Sw.rounds_len]; simp [Sw.start]
        refine ⟨a, tv (e1, e2, e3), rfl, SqT.of (s2 _ _ he), rfl, _, _, rfl, _, _, rfl, _, _, rfl, rfl, ?_⟩
        refine ⟨_, rfl, _, rfl, _, rfl, _, rfl, p, _, e1, e2, e3, rfl, h2, by rw [hdl]; exact hb.1, by rw [hdl]; exact hb.2, fun H3 h3 b3 => ?_⟩
        refine ⟨_, rfl, _, rfl, _, rfl, _, rfl, p, _, e2, e1, e3, rfl, h3, by rw [Sw.relax_len, hdl]; exact hb.2, by rw [Sw.relax_len, hdl]; exact hb.1, fun H4 h4 b4 => ?_⟩
        refine ⟨_, _, _, rfl, fun b o q => b4 _ _ (b3 _ _ (s2 _ _ q) (ne_of_none q np0)) (ne_of_none q np0), ?_⟩
        rw [take_succ_of ee, both_snoc, roundOf_append]
        exact h4
      · rintro σ H2 ⟨z5, z6, z7, rfl, s2, h2⟩
        refine ⟨_, _, _, _, rfl, s2, ?_⟩
        rw [Sw.rounds_succ]
        rw [List.length_map, hlen, List.take_length] at h2
        exact h2
    · rintro σ H' ⟨y4, y5, y6, y7, rfl, sm, hd⟩
      exact ⟨_, rfl, kk p H' np0 sm hd⟩
end
end K

namespace K
open PySem PySem.Spec PyProof.Rows L2
open Sw (T3 Dist at? relax roundOf rounds)
abbrev sPairs : Stmt := top 29
section
variable {P : Program} {w : World} {K : PySem.W.Frag} {mg : Str → Option Value} {base : Heap}
theorem scPairs : FnScope ["_law_many", "_law_one", "_law_other"] ["_law_many"] (defScope sPairs) := ⟨rfl, rfl, rfl, by decide +kernel, rfl, by decide +kernel, by decide +kernel⟩
def scIn : Scope := { kind := .function, names := [(".0", .local), ("_law_one", .cell), ("range", .globalImplicit), ("_law_many", .cell)], isGenerator := false, isCoroutine := false }
theorem ok_pairs {f : Addr} {fd : FuncData} {k : Nat} (F : Fun K "_law_pairs" "_law_pairs" sPairs f fd) (msum : mg "sum" = none) (mr : mg "range" = none) : FnOk P w K mg base CX0 (k + 1) f fd ["_law_many"] spPairs := by
  refine F.ok scPairs (fun vs H Q E h => ?_) (fun cdv A outer s H vs Q E hr h => ?_)
  · obtain ⟨n, rfl, _⟩ := h
    rfl
  · obtain ⟨n, rfl, h0, h8, kk⟩ := h
    refine ⟨_, pss_one (ps_ret (pe_callB (cr_sumL rfl) (by rfl) msum (by decide +kernel) (pa_cons
      (pe_lc (own := [("_law_one", 1)]) (g := gName 1) (tt := tYes) rfl scPairs.nd (pi_range1 rfl mr (pa_cons (pv 0) pa_nil)) (blkOk_by (own := [("_law_one", 1)]) (N := ["_law_many", "_law_one", "_law_other"]) (sc := defScope sPairs) (by decide +kernel))
        (fun _ _ _ _ _ => by exact (pg_name (i := 1) scPairs.nd rfl (Or.inr rfl))) (fun _ _ _ _ _ => pts_nil)
        (fun _ _ _ _ _ => pe_lc (own := [("_law_other", 2)]) (g := gName 2) (tt := tYes) rfl scPairs.nd (by exact (pi_range2 (by rfl) mr (pa_cons (pe_op op_add (pv 1) pe_int) (pa_cons (pv 0) pa_nil)))) (blkOk_by (own := [("_law_other", 2)]) (N := ["_law_many", "_law_one", "_law_other"]) (sc := scIn) (by decide +kernel))
          (fun _ _ _ _ _ => by exact (pg_name (i := 2) scPairs.nd rfl (Or.inl rfl))) (fun _ _ _ _ _ => pts_nil)
          (fun _ _ _ _ _ => by exact (pe_tup (pa_cons (pv 1) (pa_cons (pv 2) pa_nil)))))) (pa_cons (pe_lst pa_nil) pa_nil)))), ?_⟩
    refine ⟨_, rfl, n, rfl, by omega, by omega, fun D nD => ?_⟩
    refine lc_range (lo := 0) (n := n) (fun i H' => Same H H' ∧ ∃ (ls : List Addr) (xss : List (List V)), H' D = some (.lst (ls.map V.ref)) ∧ ls.length = i ∧ Paired (fun l xs => l ≠ D ∧ H' l = some (.lst xs)) ls xss ∧ ∀ xs ∈ xss, PairsV H' n xs ∧ xs.length ≤ n)
      ⟨same_upd nD, [], [], upd_same, rfl, .nil, fun xs m => by cases m⟩ ?_ ?_
    · rintro i H1 hi ⟨s1, ls, xss, hD, hl, hp, hx⟩
      refine ⟨rfl, ?_⟩
      refine ⟨_, rfl, _, _, rfl, rfl, _, rfl, _, _, rfl, ⟨by omega, by omega, by omega, by omega⟩, fun D2 nD2 => ?_⟩
      have nDD : D ≠ D2 := ne_of_none hD nD2
      refine lc_range (fun j H2 => Same H1 H2 ∧ ∃ xs, H2 D2 = some (.lst xs) ∧ xs.length = j ∧ PairsV H2 n xs) ⟨same_upd nD2, [], upd_same, rfl, PairsV.nil⟩ ?_ ?_
      · rintro j H2 hj ⟨s2, xs, hD2, hxl, hxs⟩
        refine ⟨rfl, ?_⟩
        refine ⟨_, rfl, _, rfl, (by show 2 ≤ sizeLine; decide), fun t nt => ?_⟩
        have s3 := same_upd (o := .tup [.int (0 + (i : Int)), .int (0 + (i : Int) + 1 + (j : Int))]) nt
        have ntD : t ≠ D2 := Ne.symm (ne_of_none hD2 nt)
        refine ⟨xs, s3 _ _ hD2, by rw [hxl]; exact small1000 (by omega), fun b o e => ?_, xs ++ [.ref t], upd_same, by rw [List.length_append, hxl]; rfl, ?_⟩
        · rw [upd_ne (ne_of_none e nD2)]
          exact s3 _ _ (s2 _ _ e)
        · have keep : ∀ a ys, H2 a = some (.tup ys) → (upd (upd H2 t (.tup [.int (0 + (i : Int)), .int (0 + (i : Int) + 1 + (j : Int))])) D2 (.lst (xs ++ [.ref t]))) a = some (.tup ys) := fun a ys e => by
            rw [upd_ne (ne_of e hD2 (fun z => by cases z))]
            exact s3 _ _ e
          refine (hxs.at keep).append (PairsV.one (i := i) (j := i + 1 + j) ?_ (by omega) (by omega))
          rw [upd_ne ntD, upd_same]
          have e1 : (0 + (i : Int)) = ((i : Nat) : Int) := by omega
          have e2 : (0 + (i : Int) + 1 + (j : Int)) = ((i + 1 + j : Nat) : Int) := by omega
          rw [e2, e1]
      · rintro H2 ⟨s2, xs, hD2, hxl, hxs⟩
        refine ⟨_, s2 _ _ hD, by rw [List.length_map, hl]; exact small1000 (by omega), fun b o e => ?_, ls ++ [D2], xss ++ [xs], ?_, by rw [List.length_append, hl]; rfl, ?_, fun ys m => ?_⟩
        · rw [upd_ne (ne_of_none e nD)]
          exact s2 _ _ (s1 _ _ e)
        · rw [upd_same, List.map_append] <;> rfl
        · refine paired_append (paired_mono (fun l zs q => ⟨q.1, by rw [upd_ne q.1]; exact s2 _ _ q.2⟩) hp) (.cons ⟨Ne.symm nDD, ?_⟩ .nil)
          rw [upd_ne (Ne.symm nDD)]
          exact hD2
        · have keep : ∀ a ys, H2 a = some (.tup ys) → (upd H2 D (.lst (ls.map V.ref ++ [.ref D2]))) a = some (.tup ys) := fun a ys e => by
            rw [upd_ne (ne_of e (s2 _ _ hD) (fun z => by cases z))]
            exact e
          rcases List.mem_append.mp m with q | q
          · exact ⟨((hx ys q).1.at fun a zs e => s2 _ _ e).at keep, (hx ys q).2⟩
          · simp at q
            subst q
            exact ⟨hxs.at keep, by rw [hxl]; omega⟩
    · rintro H1 ⟨s1, ls, xss, hD, hl, hp, hx⟩
      refine ⟨Nat.zero_le _, fun z nz => ?_⟩
      have s2 := same_upd (o := .lst []) nz
      have hxl : xss.length = n := by rw [← hl]; exact (paired_len hp).symm
      have hfl := flat_len (n := n) fun xs m => (hx xs m).2
      have hb : xss.length * n ≤ 8 * 8 := by rw [hxl]; exact Nat.mul_le_mul h8 h8
      refine ⟨D, z, ls, xss, [], rfl, s2 _ _ hD, upd_same, paired_mono (fun l xs q => s2 _ _ q.2) hp, fun e => by rw [e] at hl; simp at hl; omega, ?_, fun p np => ?_⟩
      · exact Nat.le_of_lt (small1000 (by show 0 + xss.flatten.length ≤ 1000; omega))
      · have s3 := same_upd (o := .lst ([] ++ xss.flatten)) np
        refine kk p _ xss.flatten (s1.free (s2.free np)) (s1.trans (s2.trans s3)) upd_same (PairsV.flat fun xs m => ((hx xs m).1.at fun a ys e => s2 _ _ e).at fun a ys e => s3 _ _ e) (by omega)
end
end K

namespace K
open PySem PySem.Spec PyProof.Rows L2
open Sw (T3 Dist at? relax roundOf rounds)
abbrev sSome : Stmt := top 30
section
variable {P : Program} {w : World} {K : PySem.W.Frag} {mg : Str → Option Value} {base : Heap}
theorem scSome : FnScope ["_law_box_here", "_law_many", "_law_odds", "_law_found", "_law_one", "_law_other"] ["_law_box_here", "_law_many", "_law_odds"] (defScope sSome) := ⟨rfl, rfl, rfl, by decide +kernel, rfl, by decide +kernel, by decide +kernel⟩
theorem ok_some {f fT fP : Addr} {fd fdT fdP : FuncData} {k : Nat} (F : Fun K "_law_some_ties" "_law_some_ties" sSome f fd) (FT : Fun K "_law_take" "_law_take" sTake fT fdT) (gT : mg "_law_take" = some (.ref fT)) (bT : Binds K fdT ["_law_box_here", "_law_sides"] [])
    (FP : Fun K "_law_pairs" "_law_pairs" sPairs fP fdP) (gP : mg "_law_pairs" = some (.ref fP)) (bP : Binds K fdP ["_law_many"] []) (mlen : mg "len" = none) (msum : mg "sum" = none) (mr : mg "range" = none) :
    FnOk P w K mg base CX0 (k + 2) f fd ["_law_box_here", "_law_many", "_law_odds"] spSome := by
  have GT : FnOk P w K mg base CX0 (k + 1) fT fdT ["_law_box_here", "_law_sides"] spTake := ok_take FT mlen
  have GP : FnOk P w K mg base CX0 (k + 1) fP fdP ["_law_many"] spPairs := ok_pairs FP msum mr
  refine F.ok scSome (fun vs H Q E h => ?_) (fun cdv A outer s H vs Q E hr h => ?_)
  · obtain ⟨p, q, n, o, rfl, _⟩ := h
    rfl
  · obtain ⟨p, q, n, o, rfl, hB, h0, h8, kk⟩ := h
    refine ⟨_, pss_cons (ps_set (i := 3) scSome.nd rfl (.inl rfl) (pe_lst pa_nil))
      (pss_cons (ps_for PassesOwn.never rfl (pi_list (pe_call GP hr (by rfl) gP FP.kp bP .nil pass0 (pa_cons (pv 1) pa_nil))) (pg_tup rfl (pgs_cons (pg_name (i := 4) scSome.nd rfl (Or.inl rfl)) (pgs_cons (pg_name (i := 5) scSome.nd rfl (Or.inl rfl)) pgs_nil)))
        (pss_one (ps_if (PW.pt (pw_and (pt_cmpR op_lt (pe_callB call_len_seq (by rfl) mlen PySem.boot_len (pa_cons (pv 3) pa_nil)) pe_int (nomark _))
            (pw_and1 (pt_cmpR op_lt (pe_call GT hr (by rfl) gT FT.kp bT .nil pass0 (pa_cons (pv 0) (pa_cons pe_int pa_nil))) (pv 2) (nomark _)))))
          (pss_one (ps_expr (pe_bm PySem.F.plainAttrs_list PySem.F.slot_list_append PySem.F.type_list_append mt_append (pv 3)
            (pa_cons (pe_tup (pa_cons (pv 4) (pa_cons (pv 5) (pa_cons (pe_op op_add pe_int (pe_call GT hr (by rfl) gT FT.kp bT .nil pass0 (pa_cons (pv 0)
              (pa_cons (pe_ix ix_list (pe_lst (pa_cons pe_int (pa_cons pe_int pa_nil))) (pe_call GT hr (by rfl) gT FT.kp bT .nil pass0 (pa_cons (pv 0) (pa_cons pe_int pa_nil))) (fun _ _ => rfl)) pa_nil)))) pa_nil)))) pa_nil)))) pss_nil)))
      (pss_one (ps_ret (pv 3)))), ?_⟩
    refine ⟨Nat.zero_le _, fun r nr => ?_⟩
    obtain ⟨op, ep⟩ := hB.p_some
    obtain ⟨oq, eq⟩ := hB.q_some
    have nrp : r ≠ p := Ne.symm (ne_of_none ep nr)
    have nrq : r ≠ q := Ne.symm (ne_of_none eq nr)
    have s1 := same_upd (o := .lst []) nr
    refine ⟨_, rfl, n, rfl, h0, h8, fun a H1 xs na s2 ha hx hxl => ?_⟩
    obtain ⟨as, ps, rfl, hp, hps⟩ := hx
    have nap : a ≠ p := Ne.symm (ne_of_none (s1 _ _ ep) na)
    have nar : a ≠ r := Ne.symm (ne_of_none upd_same na)
    -- tuples stand apart from the box and from the list that grows
    refine ⟨a, rfl, ⟨_, SqL.of ha⟩, for_list (K := K) (a := a) (xs := as.map V.ref) (fun i σ H' => ∃ y4 y5 ts, σ = [some (.ref p), some (.int (n : Nat)), some (.int o), some (.ref r), y4, y5] ∧ BoxAt H' p q ∧ But p H H' ∧
        (∀ b u, H1 b = some u → b ≠ p → b ≠ r → H' b = some u) ∧ TiesAt H' r ts ∧ Good n ts ∧ ts.length ≤ 14)
      ⟨none, none, [], rfl, (hB.same s1).same s2, (But.of_same s1).trans (But.of_same s2), fun b u e _ _ => e, ⟨[], s2 _ _ upd_same, .nil⟩, fun e m => (by cases m), Nat.zero_le _⟩
      (fun i σ H' _ ⟨_, _, _, _, _, _, b, _⟩ => SqL.of (b _ _ ha nap nar)) ?_ ?_⟩
    · rintro i y σ H' hi ⟨y4, y5, ts, rfl, B1, b1, c1, hT, hG, hL⟩
      obtain ⟨x, ex, rfl⟩ := map_ref_at hi
      obtain ⟨e, ee, he⟩ := paired_at hp i x ex
      obtain ⟨e1, e2⟩ := e
      have hb := hps _ (List.mem_of_getElem? ee)
      have nxp : x ≠ p := ne_of he (s2 _ _ (s1 _ _ ep)) (fun z => by obtain ⟨_, _, _, _, z1, _⟩ := hB; rw [ep] at z1; cases z1; cases z)
      have nxr : x ≠ r := ne_of he (s2 _ _ upd_same) (fun z => by cases z)
      refine ⟨x, _, rfl, SqT.of (c1 _ _ he nxp nxr), rfl, _, _, rfl, _, _, rfl, rfl, ?_⟩
      obtain ⟨bs, h1, h2⟩ := id hT
      have hbl : bs.length = ts.length := paired_len h2
      refine ⟨_, rfl, r, _, rfl, .inl (SqL.of h1), _, _, rfl, rfl, _, rfl, ?_⟩
      rw [List.length_map]
      refine ite2 (fun c => ?_) (fun c => ?_)
      · have c := of_decide_eq_true c
        refine ⟨_, rfl, p, q, 8, rfl, B1, by omega, by omega, fun z H2 hz0 hz1 B2 b2 => ?_⟩
        refine ⟨_, rfl, _, _, rfl, rfl, _, rfl, ?_⟩
        have T2 : ∀ {Ha Hb : Hp}, But p Ha Hb → BoxAt Ha p q → TiesAt Ha r ts → TiesAt Hb r ts := fun {Ha Hb} bb BB TT => by
          obtain ⟨bs, h1, h2⟩ := TT
          obtain ⟨_, _, _, _, z1, _⟩ := BB
          exact ⟨bs, bb _ _ h1 nrp, paired_mono (fun a e q => bb _ _ q (ne_of q z1 (fun z => by cases z))) h2⟩
        have hT2 := T2 b2 B1 hT
        refine ite2 (fun c2 => ?_) (fun c2 => ?_)
        · obtain ⟨bs2, h12, h22⟩ := id hT2
          refine ⟨_, rfl, .inl ⟨rfl, _, SqL.of h12⟩, _, rfl, _, rfl, _, rfl, (by show 2 ≤ sizeLine; decide), fun l nl => ?_⟩
          have s3 := same_upd (o := .lst [.int 2, .int 9]) nl
          refine ⟨_, rfl, p, q, 2, rfl, B2.same s3, by omega, by omega, fun z3 H3 hz30 hz31 B3 b3 => ?_⟩
          obtain ⟨op2, ep2⟩ := B2.p_some
          have nlp : l ≠ p := Ne.symm (ne_of_none ep2 nl)
          have hl3 : H3 l = some (.lst [.int 2, .int 9]) := b3 _ _ upd_same nlp
          have hT3 := T2 b3 (B2.same s3) (hT2.same s3)
          have hv : ∃ v : Int, (v = 2 ∨ v = 9) ∧ atI [V.int 2, V.int 9] z3 = some (.int v) := by
            have : z3 = 0 ∨ z3 = 1 := by omega
            rcases this with q | q
            · subst q; exact ⟨2, .inl rfl, rfl⟩
            · subst q; exact ⟨9, .inr rfl, rfl⟩
          obtain ⟨v, hv1, hv2⟩ := hv
          refine ⟨l, _, z3, _, rfl, rfl, SqL.of hl3, hv2, p, q, v, rfl, B3, by omega, by omega, fun z4 H4 hz40 hz41 B4 b4 => ?_⟩
          have hT4 := T2 b4 B3 hT3
          refine ⟨_, _, rfl, rfl, (by show 3 ≤ sizeLine; decide), fun t nt => ?_⟩
          have s5 := same_upd (o := .tup [.int (e1 : Nat), .int (e2 : Nat), .int (1 + z4)]) nt
          obtain ⟨bs4, h14, h24⟩ := id (hT4.same s5)
          have ntr : t ≠ r := by obtain ⟨_, z, _⟩ := hT4; exact Ne.symm (ne_of_none z nt)
          have hbl4 : bs4.length = ts.length := paired_len h24
          refine ⟨r, _, _, rfl, rfl, h14, by rw [List.length_map]; exact small1000 (by omega), ?_⟩
          refine ⟨_, _, ts ++ [(e1, e2, (1 + z4).toNat)], rfl, (B4.same s5).put nrp nrq, fun b u e hb => ?_, fun b u e hb hbr => ?_, ⟨bs4 ++ [t], ?_, paired_append (paired_mono (fun a e q => ?_) h24) (.cons ?_ .nil)⟩, fun e m => ?_, ?_⟩
          · rw [upd_ne (ne_of_none e nr)]
            exact s5 _ _ (b4 _ _ (b3 _ _ (s3 _ _ (b2 _ _ (b1 _ _ e hb) hb)) hb) hb)
          · rw [upd_ne hbr]
            exact s5 _ _ (b4 _ _ (b3 _ _ (s3 _ _ (b2 _ _ (c1 _ _ e hb hbr) hb)) hb) hb)
          · rw [upd_same, List.map_append] <;> rfl
          · rw [upd_ne (ne_of q h14 (fun z => by cases z))]
            exact q
          · rw [upd_ne ntr, upd_same]
            have : ((1 + z4).toNat : Int) = 1 + z4 := Int.toNat_of_nonneg (by omega)
            unfold tv
            rw [this]
          · rcases List.mem_append.mp m with q | q
            · exact hG e q
            · simp at q
              subst q
              exact ⟨hb.1, hb.2, show 1 ≤ (1 + z4).toNat by omega, show (1 + z4).toNat ≤ 9 by omega⟩
          · rw [List.length_append]
            show ts.length + 1 ≤ 14
            omega
        · exact ⟨_, _, ts, rfl, B2, b1.trans b2, fun b u e hb hbr => b2 _ _ (c1 _ _ e hb hbr) hb, hT2, hG, hL⟩
      · exact ⟨_, _, ts, rfl, B1, b1, c1, hT, hG, hL⟩
    · rintro σ H' ⟨y4, y5, ts, rfl, B1, b1, c1, hT, hG, hL⟩
      exact ⟨_, rfl, kk r H' ts nr B1 b1 hT hG hL⟩
end
end K

namespace K
open PySem PySem.Spec PyProof.Rows L2
open Sw (T3 Dist at? relax roundOf rounds)
abbrev sLFar : Stmt := top 31
section
variable {P : Program} {w : World} {K : PySem.W.Frag} {mg : Str → Option Value} {base : Heap}
theorem scLFar : FnScope ["_law_many", "_law_ties", "_law_goal", "_law_spans", "_law_both", "_law_turn", "_law_a", "_law_b", "_law_cost"] ["_law_many", "_law_ties", "_law_goal"] (defScope sLFar) := ⟨rfl, rfl, rfl, by decide +kernel, rfl, by decide +kernel, by decide +kernel⟩
theorem ok_lfar {f : Addr} {fd : FuncData} {k : Nat} (F : Fun K "_law_far" "_law_far" sLFar f fd) (mr : mg "range" = none) : FnOk P w K mg base CX0 (k + 1) f fd ["_law_many", "_law_ties", "_law_goal"] spLFar := by
  refine F.ok scLFar (fun vs H Q E h => ?_) (fun cdv A outer s H vs Q E hr h => ?_)
  · obtain ⟨n, g, t, ts, rfl, _⟩ := h
    rfl
  · obtain ⟨n, g, t, ts, rfl, hg, hn, hT, hlt, hF, kk⟩ := h
    refine ⟨_, pss_cons (ps_set (i := 3) scLFar.nd rfl (.inl rfl) (pe_op op_rep (pe_lst (pa_cons pe_non pa_nil)) (pv 0)))
      (pss_cons (ps_asg pe_int (pg_sub (pv 3) (pv 2) set_list))
      (pss_cons (ps_set (i := 4) scLFar.nd rfl (.inl rfl) (pe_op op_cat (pv 1)
        (pe_lc (own := [("_law_a", 6), ("_law_b", 7), ("_law_cost", 8)]) (g := gTup K 3 (gCons (gName 6) (gCons (gName 7) (gCons (gName 8) gNil)))) (tt := tYes) rfl scLFar.nd (pi_list (pv 1))
          (blkOk_by (own := [("_law_a", 6), ("_law_b", 7), ("_law_cost", 8)]) (N := ["_law_many", "_law_ties", "_law_goal", "_law_spans", "_law_both", "_law_turn", "_law_a", "_law_b", "_law_cost"]) (sc := defScope sLFar) (by decide +kernel))
          (fun _ _ _ _ _ => by exact (pg_tup rfl (pgs_cons (pg_name (i := 6) scLFar.nd rfl (Or.inl rfl)) (pgs_cons (pg_name (i := 7) scLFar.nd rfl (Or.inl rfl)) (pgs_cons (pg_name (i := 8) scLFar.nd rfl (Or.inl rfl)) pgs_nil))))) (fun _ _ _ _ _ => pts_nil)
          (fun _ _ _ _ _ => by exact (pe_tup (pa_cons (pv 7) (pa_cons (pv 6) (pa_cons (pv 8) pa_nil))))))))
      (pss_cons (ps_for PassesOwn.never rfl (pi_range1 rfl mr (pa_cons (pv 0) pa_nil)) (pg_name (i := 5) scLFar.nd rfl (Or.inl rfl))
        (pss_one (ps_for PassesOwn.never rfl (pi_list (pv 4)) (pg_tup rfl (pgs_cons (pg_name (i := 6) scLFar.nd rfl (Or.inl rfl)) (pgs_cons (pg_name (i := 7) scLFar.nd rfl (Or.inl rfl)) (pgs_cons (pg_name (i := 8) scLFar.nd rfl (Or.inl rfl)) pgs_nil))))
          (pss_one (ps_if (PW.pt (pw_and (pt_cmpR op_notN (pe_ix ix_list (pv 3) (pv 7) (fun _ _ => rfl)) pe_non (nomark _))
              (pw_and1 (PW.pt (pw_or (pt_cmpR op_isN (pe_ix ix_list (pv 3) (pv 6) (fun _ _ => rfl)) pe_non (nomark _))
                (pw_or1 (pt_cmpR op_lt (pe_op op_add (pe_ix ix_list (pv 3) (pv 7) (fun _ _ => rfl)) (pv 8)) (pe_ix ix_list (pv 3) (pv 6) (fun _ _ => rfl)) (nomark _))))))))
            (pss_one (ps_asg (pe_op op_add (pe_ix ix_list (pv 3) (pv 7) (fun _ _ => rfl)) (pv 8)) (pg_sub (pv 3) (pv 6) set_list))) pss_nil)))))
      (pss_one (ps_ret (pv 3)))))), ?_⟩
    refine ⟨(by show 1 ≤ sizeLine; decide), fun l nl => ?_⟩
    have s1 : Same H (upd H l (.lst [.non])) := same_upd nl
    refine ⟨_, rfl, l, n, _, rfl, rfl, upd_same, by omega, by omega, ?_, fun p np => ?_⟩
    · rw [Int.toNat_natCast]
      exact Nat.le_of_lt (small1000 (by show 1 * n ≤ 1000; omega))
    rw [Int.toNat_natCast, rep_non]
    have np0 : H p = none := s1.free np
    refine ⟨_, rfl, _, rfl, p, _, _, g, rfl, rfl, upd_same, ?_, ?_⟩
    · rw [List.length_map, List.length_replicate]; exact ixN_nat hg
    have e0 : ((List.replicate n (none : Option Nat)).map ov).set g (.int 0) = (Sw.start n g).map ov := by
      unfold Sw.start
      rw [← set_ov]
      rfl
    rw [e0]
    have s2 : Same H (upd (upd (upd H l (.lst [.non])) p (.lst ((List.replicate n (none : Option Nat)).map ov))) p (.lst ((Sw.start n g).map ov))) := fun b o e => by
      rw [upd_ne (ne_of_none e np0), upd_ne (ne_of_none e np0)]
      exact s1 _ _ e
    have hp0 : DistAt (upd (upd (upd H l (.lst [.non])) p (.lst ((List.replicate n (none : Option Nat)).map ov))) p (.lst ((Sw.start n g).map ov))) p (Sw.start n g) := upd_same
    revert s2 hp0
    generalize upd (upd (upd H l (.lst [.non])) p (.lst ((List.replicate n (none : Option Nat)).map ov))) p (.lst ((Sw.start n g).map ov)) = H0
    intro s2 hp0
    -- the ties the other way about
    obtain ⟨as, ht, hp⟩ := id hT
    have hlen := paired_len hp
    refine ⟨_, rfl, _, rfl, t, rfl, ⟨_, SqL.of (s2 _ _ ht)⟩, fun D nD => ?_⟩
    refine lc_list (K := K) (a := t) (xs := as.map V.ref) (fun i H' => Same H0 H' ∧ ∃ bs, H' D = some (.lst (bs.map V.ref)) ∧ Paired (fun b e => H' b = some (.tup (tv e))) bs ((ts.take i).map swp))
      ⟨same_upd nD, [], upd_same, .nil⟩ (fun i H' _ ⟨s3, _⟩ => SqL.of (s3 _ _ (s2 _ _ ht))) ?_ ?_
    · rintro i y H1 hi ⟨s3, bs, hD, hb⟩
      obtain ⟨a, ea, rfl⟩ := map_ref_at hi
      obtain ⟨e, ee, he⟩ := paired_at hp i a ea
      obtain ⟨e1, e2, e3⟩ := e
      have hil : i < ts.length := (List.getElem?_eq_some_iff.mp ee).1
      have hbl := paired_len hb
      rw [List.length_map, List.length_take] at hbl
      refine ⟨a, tv (e1, e2, e3), rfl, SqT.of (s3 _ _ (s2 _ _ he)), rfl, _, _, rfl, _, _, rfl, _, _, rfl, rfl, rfl, ?_⟩
      refine ⟨_, rfl, _, rfl, _, rfl, (by show 3 ≤ sizeLine; decide), fun q nq => ?_⟩
      have s4 := same_upd (o := .tup (tv (e2, e1, e3))) nq
      have nqD : q ≠ D := Ne.symm (ne_of_none hD nq)
      refine ⟨_, s4 _ _ hD, by rw [List.length_map]; exact small1000 (by omega), fun b o e => ?_, bs ++ [q], ?_, ?_⟩
      · rw [upd_ne (ne_of_none e nD)]
        exact s4 _ _ (s3 _ _ e)
      · rw [upd_same, List.map_append]
        rfl
      · rw [take_succ_of ee, List.map_append]
        refine paired_append (paired_mono (fun b e q => ?_) hb) (.cons ?_ .nil)
        · rw [upd_ne (ne_of q hD (fun z => by cases z))]
          exact s4 _ _ q
        · rw [upd_ne nqD]
          exact upd_same
    · rintro H1 ⟨s3, bs, hD, hb⟩
      rw [List.length_map, hlen, List.take_length] at hb
      have hbl := paired_len hb
      rw [List.length_map] at hbl
      refine ⟨t, D, as.map V.ref, bs.map V.ref, rfl, rfl, s3 _ _ (s2 _ _ ht), hD, ?_, fun c nc => ?_⟩
      · rw [List.length_map, List.length_map]
        exact Nat.le_of_lt (small1000 (by omega))
      have s4 := same_upd (o := .lst (as.map V.ref ++ bs.map V.ref)) nc
      have nc1 : H1 c = none := nc
      have hpc : Paired (fun a e => (upd H1 c (.lst (as.map V.ref ++ bs.map V.ref))) a = some (.tup (tv e))) (as ++ bs) (ts ++ ts.map swp) :=
        paired_append (paired_mono (fun a e q => s4 _ _ (s3 _ _ (s2 _ _ q))) hp) (paired_mono (fun a e q => s4 _ _ q) hb)
      have hc : (upd H1 c (.lst (as.map V.ref ++ bs.map V.ref))) c = some (.lst ((as ++ bs).map V.ref)) := by rw [upd_same, List.map_append]
      have s5 : Same H (upd H1 c (.lst (as.map V.ref ++ bs.map V.ref))) := s2.trans (s3.trans s4)
      have hp5 : DistAt (upd H1 c (.lst (as.map V.ref ++ bs.map V.ref))) p (Sw.start n g) := s4 _ _ (s3 _ _ hp0)
      have npc : p ≠ c := ne_of_none (s3 _ _ hp0) nc
      revert hpc hc s5 hp5
      generalize upd H1 c (.lst (as.map V.ref ++ bs.map V.ref)) = H5
      intro hpc hc s5 hp5
      have hF2 : ∀ e ∈ ts ++ ts.map swp, e.1 < n ∧ e.2.1 < n := fun e m => both_lt hF e ((lfar_mem ts e).mpr m)
      have hlen2 := paired_len hpc
      generalize hL : ts ++ ts.map swp = L at hpc hF2 hlen2
      have kk' : ∀ H', Same H H' → DistAt H' p (rounds L n (Sw.start n g)) → Q (.ref p) H' := fun H' a b => kk p H' np0 a (by unfold lfarD; rw [hL]; exact b)
      refine ⟨_, rfl, n, rfl, by omega, by omega, for_range (n := n) (fun i σ H' => ∃ y5 y6 y7 y8, σ = [some (.int (n : Nat)), some (.ref t), some (.int (g : Nat)), some (.ref p), some (.ref c), y5, y6, y7, y8] ∧ (∀ b o, H5 b = some o → b ≠ p → H' b = some o) ∧ DistAt H' p (rounds L i (Sw.start n g)))
        ⟨none, none, none, none, rfl, fun b o e _ => e, hp5⟩ ?_ ?_⟩
      · rintro i σ H' hi ⟨y5, y6, y7, y8, rfl, sm, hd⟩
        refine ⟨_, rfl, c, rfl, ⟨_, SqL.of (sm _ _ hc (Ne.symm npc))⟩, for_list (K := K) (a := c) (xs := (as ++ bs).map V.ref) (fun j σ H2 => ∃ z6 z7 z8, σ = [some (.int (n : Nat)), some (.ref t), some (.int (g : Nat)), some (.ref p), some (.ref c), some (.int (0 + (i : Int))), z6, z7, z8] ∧ (∀ b o, H5 b = some o → b ≠ p → H2 b = some o) ∧ DistAt H2 p (roundOf (L.take j) (rounds L i (Sw.start n g))))
          ⟨y6, y7, y8, rfl, sm, hd⟩ (fun j σ H2 _ ⟨_, _, _, _, q2, _⟩ => SqL.of (q2 _ _ hc (Ne.symm npc))) ?_ ?_⟩
        · rintro j y σ H2 hj ⟨z6, z7, z8, rfl, q2, h2⟩
          obtain ⟨a, ea, rfl⟩ := map_ref_at hj
          obtain ⟨e, ee, he⟩ := paired_at hpc j a ea
          obtain ⟨e1, e2, e3⟩ := e
          have hb := hF2 _ (List.mem_of_getElem? ee)
          have nap : a ≠ p := ne_of he hp5 (fun z => by cases z)
          have hstep : roundOf (L.take (j + 1)) (rounds L i (Sw.start n g)) = relax (roundOf (L.take j) (rounds L i (Sw.start n g))) (e1, e2, e3) := by
            rw [take_succ_of ee, roundOf_append]
            rfl
          have hdl : (roundOf (L.take j) (rounds L i (Sw.start n g))).length = n := by rw [Sw.round_len, Sw.rounds_len]; simp [Sw.start]
          generalize roundOf (L.take j) (rounds L i (Sw.start n g)) = d at h2 hdl hstep
          have ha := atI_nat (at_of (d := d) (v := e1) (by rw [hdl]; exact hb.1))
          have hbb := atI_nat (at_of (d := d) (v := e2) (by rw [hdl]; exact hb.2))
          refine ⟨a, tv (e1, e2, e3), rfl, SqT.of (q2 _ _ he nap), rfl, _, _, rfl, _, _, rfl, _, _, rfl, rfl, ?_⟩
          have fin : ∀ H3, (∀ b o, H2 b = some o → b ≠ p → H3 b = some o) → DistAt H3 p (relax d (e1, e2, e3)) → ∃ z6 z7 z8, [some (V.int (n : Nat)), some (.ref t), some (.int (g : Nat)), some (.ref p), some (.ref c), some (.int (0 + (i : Int))), some (.int (e1 : Nat)), some (.int (e2 : Nat)), some (.int (e3 : Nat))] = [some (.int (n : Nat)), some (.ref t), some (.int (g : Nat)), some (.ref p), some (.ref c), some (.int (0 + (i : Int))), z6, z7, z8] ∧ (∀ b o, H5 b = some o → b ≠ p → H3 b = some o) ∧ DistAt H3 p (roundOf (L.take (j + 1)) (rounds L i (Sw.start n g))) := fun H3 k3 h3 =>
            ⟨_, _, _, rfl, fun b o e hb => k3 _ _ (q2 _ _ e hb) hb, by rw [hstep]; exact h3⟩
          refine ⟨_, rfl, _, rfl, p, _, _, _, rfl, rfl, SqL.of h2, hbb, rfl, _, rfl, ?_⟩
          cases eb : at? d e2 with
          | none =>
            refine iteF ?_
            refine fin H2 (fun b o e _ => e) ?_
            unfold relax
            simp only [eb]
            exact h2
          | some y =>
            refine iteT ?_
            rw [eb] at hbb
            refine ⟨_, rfl, _, rfl, p, _, _, _, rfl, rfl, SqL.of h2, ha, rfl, _, rfl, ?_⟩
            have put : ∀ z : Nat, (z : Int) = (y : Int) + (e3 : Int) → upd H2 p (.lst ((d.map ov).set e1 (.int ((y : Int) + (e3 : Int))))) p = some (.lst ((d.set e1 (some z)).map ov)) := fun z hz => by
              rw [upd_same, ← set_ov, ← hz]
              rfl
            cases ea2 : at? d e1 with
            | none =>
              refine iteT ?_
              refine ⟨_, rfl, _, rfl, p, _, _, _, rfl, rfl, SqL.of h2, hbb, _, rfl, _, _, rfl, rfl, _, rfl, _, rfl, p, _, _, e1, rfl, rfl, h2, ?_, ?_⟩
              · rw [List.length_map]; exact ixN_nat (by rw [hdl]; exact hb.1)
              · refine fin _ (fun b o e hb => by rw [upd_ne hb]; exact e) ?_
                unfold relax
                simp only [eb, ea2]
                exact put (y + e3) (by omega)
            | some x =>
              refine iteF ?_
              rw [ea2] at ha
              refine ⟨_, rfl, _, rfl, p, _, _, _, rfl, rfl, SqL.of h2, hbb, _, rfl, _, _, rfl, rfl, _, rfl, _, rfl, p, _, _, _, rfl, rfl, SqL.of h2, ha, _, _, rfl, rfl, _, rfl, ?_⟩
              refine ite2 (fun l => ?_) (fun l => ?_)
              · have l : (y : Int) + (e3 : Int) < (x : Int) := of_decide_eq_true l
                refine ⟨_, rfl, _, rfl, p, _, _, _, rfl, rfl, SqL.of h2, hbb, _, rfl, _, _, rfl, rfl, _, rfl, _, rfl, p, _, _, e1, rfl, rfl, h2, ?_, ?_⟩
                · rw [List.length_map]; exact ixN_nat (by rw [hdl]; exact hb.1)
                · refine fin _ (fun b o e hb => by rw [upd_ne hb]; exact e) ?_
                  unfold relax
                  simp only [eb, ea2]
                  rw [if_pos (show y + e3 < x by omega)]
                  exact put (y + e3) (by omega)
              · have l : ¬ ((y : Int) + (e3 : Int) < (x : Int)) := fun q => l (decide_eq_true q)
                refine fin H2 (fun b o e _ => e) ?_
                unfold relax
                simp only [eb, ea2]
                rw [if_neg (show ¬ (y + e3 < x) by omega)]
                exact h2
        · rintro σ H2 ⟨z6, z7, z8, rfl, q2, h2⟩
          refine ⟨_, _, _, _, rfl, q2, ?_⟩
          rw [Sw.rounds_succ]
          rw [List.length_map, hlen2, List.take_length] at h2
          exact h2
      · rintro σ H' ⟨y5, y6, y7, y8, rfl, sm, hd⟩
        exact ⟨_, rfl, kk' H' (fun b o e => sm _ _ (s5 _ _ e) (ne_of_none e np0)) hd⟩
end
end K

namespace K
open PySem PySem.Spec PyProof.Rows L2
open Sw (T3 Dist)
abbrev sWild : Stmt := top 27
def spWild : Sp := fun vs H Q _ => ∃ (p q : Addr), vs = [.ref p] ∧ BoxAt H p q ∧ ∀ (z : Int) (H' : Hp), (z = -1 ∨ z = 8 ∨ z = 9 ∨ z = 10 ^ 20 ∨ z = -(10 ^ 30)) → BoxAt H' p q → But p H H' → Q (.int z) H'
theorem ifT {c : Bool} {A B : Prop} (hc : c = true) (h : A) : if c = true then A else B := by rw [if_pos hc]; exact h
theorem ifF {c : Bool} {A B : Prop} (hc : c = false) (h : B) : if c = true then A else B := by rw [hc, if_neg Bool.false_ne_true]; exact h
section
variable {P : Program} {w : World} {K : PySem.W.Frag} {mg : Str → Option Value} {base : Heap}
theorem scWild : FnScope ["_law_box_here"] ["_law_box_here"] (defScope sWild) := ⟨rfl, rfl, rfl, by decide +kernel, rfl, by decide +kernel, by decide +kernel⟩
theorem ok_wild {f fT : Addr} {fd fdT : FuncData} {k : Nat} (F : Fun K "_law_wild" "_law_wild" sWild f fd) (c_law_take : Cal P w K mg base (k + 1) "_law_take" fT fdT ["_law_box_here", "_law_sides"] spTake) : FnOk P w K mg base CX0 (k + 2) f fd ["_law_box_here"] spWild := by
  refine F.ok scWild (fun vs H Q E h => ?_) (fun cdv A outer s H vs Q E hr h => ?_)
  · obtain ⟨p, q, rfl, _⟩ := h
    rfl
  · obtain ⟨p, q, rfl, hB, kk⟩ := h
    refine ⟨_, (pss_one (ps_ret (pe_ix (r := rIxL K) ix_list (pe_lst (pa_cons (pe_un un_neg pe_int) (pa_cons pe_int (pa_cons pe_int (pa_cons (pe_op op_pow pe_int pe_int) (pa_cons (pe_un un_neg (pe_op op_pow pe_int pe_int)) pa_nil)))))) (pe_call c_law_take.ok hr (by rfl) c_law_take.g c_law_take.kp c_law_take.b .nil pass0 (pa_cons (pv 0) (pa_cons pe_int pa_nil))) (fun _ _ => rfl)))), ?_⟩
    refine ⟨1, rfl, 10, 20, rfl, rfl, ⟨by decide, by decide, by decide⟩, 10, 30, rfl, rfl, ⟨by decide, by decide, by decide⟩, _, rfl, (by show 5 ≤ sizeLine; decide), fun l nl => ?_⟩
    have s1 := same_upd (o := .lst [.int (-1), .int 8, .int 9, .int (10 ^ (20 : Int).toNat), .int (-(10 ^ (30 : Int).toNat))]) nl
    obtain ⟨op, ep⟩ := hB.p_some
    have nlp : l ≠ p := Ne.symm (ne_of_none ep nl)
    refine ⟨_, rfl, p, q, 5, rfl, hB.same s1, by omega, by omega, fun z H2 hz0 hz1 B2 b2 => ?_⟩
    have hl2 : H2 l = some (.lst [.int (-1), .int 8, .int 9, .int (10 ^ (20 : Int).toNat), .int (-(10 ^ (30 : Int).toNat))]) := b2 _ _ upd_same nlp
    have b : But p H H2 := (But.of_same s1).trans b2
    have : z = 0 ∨ z = 1 ∨ z = 2 ∨ z = 3 ∨ z = 4 := by omega
    rcases this with e | e | e | e | e
    · subst e; exact ⟨l, _, 0, _, rfl, rfl, SqL.of hl2, rfl, kk _ H2 (.inl rfl) B2 b⟩
    · subst e; exact ⟨l, _, 1, _, rfl, rfl, SqL.of hl2, rfl, kk _ H2 (.inr (.inl rfl)) B2 b⟩
    · subst e; exact ⟨l, _, 2, _, rfl, rfl, SqL.of hl2, rfl, kk _ H2 (.inr (.inr (.inl rfl))) B2 b⟩
    · subst e; exact ⟨l, _, 3, _, rfl, rfl, SqL.of hl2, rfl, kk _ H2 (.inr (.inr (.inr (.inl rfl)))) B2 b⟩
    · subst e; exact ⟨l, _, 4, _, rfl, rfl, SqL.of hl2, rfl, kk _ H2 (.inr (.inr (.inr (.inr rfl)))) B2 b⟩
end
end K

namespace K
open PySem PySem.Spec PyProof.Rows L2
abbrev sSlipI : Stmt := inClass (top 1) 0
section
variable {P : Program} {w : World} {K : PySem.W.Frag} {mg : Str → Option Value} {base : Heap}
theorem scSlipI : FnScope ["self", "word", "why"] ["self", "word", "why"] (defScope sSlipI) := ⟨rfl, rfl, rfl, by decide +kernel, rfl, by decide +kernel, by decide +kernel⟩
theorem ok_slipI {f CS fS : Addr} {fd : FuncData} {k : Nat} {dvs : List V} (F : FunD K "__init__" "SlipError.__init__" (defArgs sSlipI) (defBody sSlipI) (defScope sSlipI) dvs [] f fd) (T : SlipT K mg CS fS) : FnOk P w K mg base CX0 (k + 1) f fd ["self", "word", "why"] (spSlip K) := by
  refine F.ok scSlipI (fun vs H Q E h => ?_) (fun cdv A outer s H vs Q E hr h => ?_)
  · obtain ⟨a, C, wd, y, rfl, _⟩ := h
    rfl
  · obtain ⟨a, C, wd, y, rfl, oex, hw, ha, q⟩ := h
    refine ⟨_, PSs.nox (pss_cons (ps_expr (pe_veinit (by rfl) T.mV T.vV (pa_cons (pv 0) (pa_cons (pv 2) pa_nil)))) (pss_one (ps_ost (pv 0) (pv 1)))), ?_⟩
    refine ⟨_, rfl, _, rfl, a, C, [.str y], rfl, (by show 1 ≤ 1000; decide), oex, ha, ?_⟩
    exact ⟨_, rfl, _, rfl, a, C, rfl, oex, hw, .inl ⟨ha, fun dx n ne => q dx n ne⟩⟩
end
end K

namespace K
open PySem PySem.Spec PyProof.Rows L2
abbrev sNoHouseI : Stmt := inClass (top 3) 0
section
variable {P : Program} {w : World} {K : PySem.W.Frag} {mg : Str → Option Value} {base : Heap}
theorem scNoHouseI : FnScope ["self", "house"] ["self", "house"] (defScope sNoHouseI) := ⟨rfl, rfl, rfl, by decide +kernel, rfl, by decide +kernel, by decide +kernel⟩
theorem ok_nohouseI {f CS fS : Addr} {fd fdS : FuncData} {k : Nat} (F : Fun K "__init__" "NoHouse.__init__" sNoHouseI f fd) (T : SlipT K mg CS fS) (GS : FnOk P w K mg base CX0 (k + 1) fS fdS ["self", "word", "why"] (spSlip K)) (bS : Binds K fdS ["self", "word", "why"] []) : FnOk P w K mg base CX0 (k + 2) f fd ["self", "house"] (spIn1 K "house" "nohouse" askInt gotSame) := by
  refine F.ok scNoHouseI (fun vs H Q E h => ?_) (fun cdv A outer s H vs Q E hr h => ?_)
  · obtain ⟨a, C, v, rfl, _⟩ := h
    rfl
  · obtain ⟨a, C, v, rfl, hask, oex, hw, hf, ha, q⟩ := h
    refine ⟨_, pss_cons (ps_expr (pe_clsf (pe_glob (v := .ref CS) (by rfl) T.g rfl) T.r T.at_ GS hr T.kp bS pass0 (pa_cons (pv 0) (pa_cons pe_str (pa_cons (pe_joined (.cons pe_str (.cons (pe_fmt (pv 1)) .nil))) pa_nil))))) (pss_one (ps_ost (pv 0) (pv 1))), ?_⟩
    obtain ⟨i, rfl, hi⟩ := hask
    refine ⟨rfl, _, rfl, _, rfl, by decide +kernel, _, rfl, .inr ⟨i, rfl, hi, _, rfl, join2_le (by decide +kernel) (Nat.le_trans (PyProof.Rows.int_text_len_1921 hi) (by decide)), ?_⟩⟩
    refine ⟨a, C, _, _, rfl, oex, hw, ha, fun dx nd ne => ?_⟩
    refine ⟨_, rfl, _, rfl, a, C, rfl, oex, hf, .inr ⟨dx, _, upd_same, by rw [upd_ne ne]; exact upd_same, (by show 1 ≤ 900; decide), ?_⟩⟩
    refine q dx _ _ nd ne (fun b o e hb => ?_) ?_ upd_same rfl
    · rw [upd_ne (ne_of_none e nd), upd_ne hb, upd_ne (ne_of_none e nd)]
      exact e
    · rw [upd_ne (Ne.symm ne)]
      exact upd_same
end
end K

namespace K
open PySem PySem.Spec PyProof.Rows L2
open Sw (T3 Dist at? relax roundOf rounds IsNext Cand IsFar nbr candL WayTo lotOf)
abbrev sCheck2 : Stmt := sCheck
section
variable {P : Program} {w : World} {K : PySem.W.Frag} {mg : Str → Option Value} {base : Heap}
theorem ok_checkX {f CH fI : Addr} {fd fdI : FuncData} {k : Nat} (F : Fun K "check_house" "check_house" sCheck f fd) (T : ExcC P w K mg base (k + 2) "NoHouse" CH fI fdI ["self", "house"] (spIn1 K "house" "nohouse" askInt gotSame)) (hfld : PySem.W.findIn K (.ref CH) "house" = some none) : FnOk P w K mg base (L2.CX P w) (k + 4) f fd ["many", "house"] (spCheckX CH) := by
  refine F.okX scCheck (fun vs H Q E h => ?_) (fun cdv A outer s H vs Q E hr h => ?_)
  · obtain ⟨n, h, rfl, _⟩ := h
    rfl
  · obtain ⟨n, h, rfl, hh, hy, hno⟩ := h
    have hr3 : Room (k + 3) _ := hr
    refine ⟨_, pss_one (ps_if (PW.pt (pw_or (pt_cmpR op_lt (pv 1) pe_int (nomark _)) (pw_or1 (pt_cmpR op_ge (pv 1) (pv 0) (nomark _)))))
      (pss_one (ps_raise rfl (takes_of rfl rfl rfl rfl) (pmk_oex T.t.oex T.t.iC T.t.tI T.ok hr3 T.b .nil pass0 (by rfl) T.t.g (pa_cons (pv 1) pa_nil)))) pss_nil), ?_⟩
    have go : ¬ (0 ≤ h ∧ h < n) → tMkO CH (spIn1 K "house" "nohouse" askInt gotSame) [] (tCons (tVar 1) tNil) (L2.start ["many", "house"] [.int (n : Nat), .int h]) H fun cls d H' => E cls d H' := fun c => by
      refine ⟨_, rfl, (by show 1 ≤ 1000; decide), fun a na => ?_⟩
      have hX := hno c
      refine ⟨a, CH, _, rfl, ⟨h, rfl, hh⟩, T.t.oex, T.t.word, hfld, upd_same, fun dx v' H2 nd ne k2 ha2 hd2 hv => ⟨rfl, dx, _, ha2, hd2, ?_, ?_⟩⟩
      · rw [upd_ne ne] at nd
        exact nd
      · have hv : v' = .int h := hv
        subst hv
        have nd0 : H dx = none := by rw [upd_ne ne] at nd; exact nd
        exact hX dx _ nd0 (raised_same na (fun b o e hb => k2 b o (by rw [upd_ne hb]; exact e) hb) nd0) upd_same
    refine ⟨_, rfl, _, _, rfl, rfl, _, rfl, ?_⟩
    refine ite2 (fun c => ?_) (fun c => ?_)
    · have c := of_decide_eq_true c
      exact iteT (go (by omega))
    · have c : ¬ h < 0 := fun z => c (decide_eq_true z)
      refine ⟨_, rfl, _, rfl, _, _, rfl, rfl, _, rfl, ?_⟩
      refine ite2 (fun c2 => ?_) (fun c2 => ?_)
      · have c2 := of_decide_eq_true c2
        exact go (by omega)
      · have c2 : ¬ (n : Int) ≤ h := fun z => c2 (decide_eq_true z)
        exact hy (by omega)
end
end K

namespace K
open PySem PySem.Spec PyProof.Rows L2 LamX
abbrev sWhy : Stmt := top 28
/-- one clause of _law_why: its class, its word, the fields that it tells -/
def clF (K : PySem.W.Frag) (wd : Str) (fs : List Str) : Addr → Value → Option Addr → TS := fun a cls d => tLen 2 (tRet (tTup (tCons (tC (.str wd)) (fs.foldr (fun f t => tCons (tXg K a cls d f (tVar 1)) t) tNil))))
def clW (K : PySem.W.Frag) : Addr → Value → Option Addr → TS := fun a cls d => tLen 2 (tRet (tTup (tCons (tXg K a cls d "word" (tVar 1)) tNil)))
def whyL (K : PySem.W.Frag) (CH CT CM CU CO CL CS : Addr) : List Cl := [⟨.ref CH, some 1, clF K "nohouse" ["house"]⟩, ⟨.ref CT, some 1, clF K "notie" ["one", "other"]⟩, ⟨.ref CM, some 1, clF K "toomany" ["bound"]⟩, ⟨.ref CU, some 1, clF K "notunnel" ["number"]⟩, ⟨.ref CO, some 1, clF K "short" ["house"]⟩, ⟨.ref CL, some 1, clF K "lone" ["lot"]⟩, ⟨.ref CS, some 1, clW K⟩]
/-- what is wished of a refusal: the tuple that its clause tells -/
def Ewhy (K : PySem.W.Frag) (CH CT CM CU CO CL CS : Addr) (D : Ends) : XK := fun cls d H' => ∀ σ' : L2.St, wMix K (fun _ _ _ _ => False) D (whyL K CH CT CM CU CO CL CS) cls d σ' H'
/-- _law_why(lambda: e) by e's own reading tl -/
def TTwhy (K : PySem.W.Frag) (CH CT CM CU CO CL CS : Addr) : (XK → Hp → VK → Prop) → Hp → VK → Prop := fun tl H Q =>
  tl (Ewhy K CH CT CM CU CO CL CS { nx := fun _ H' => Q .non H', rt := Q }) H (fun v H' => [V.str "told", v].length ≤ sizeLine ∧ ∀ p, H' p = none → Q (.ref p) (upd H' p (.tup [.str "told", v])))
section
variable {P : Program} {w : World} {K : PySem.W.Frag} {mg : Str → Option Value} {base : Heap}
theorem scWhy : FnScope ["_law_ask", "e"] ["_law_ask"] (defScope sWhy) := ⟨rfl, rfl, rfl, by decide +kernel, rfl, by decide +kernel, by decide +kernel⟩
/-- the seven classes' names stand for them -/
structure WhyT (mg : Str → Option Value) (CH CT CM CU CO CL CS : Addr) : Prop where
  h : mg "NoHouse" = some (.ref CH)
  t : mg "NoTie" = some (.ref CT)
  m : mg "TooMany" = some (.ref CM)
  u : mg "NoTunnel" = some (.ref CU)
  o : mg "Short" = some (.ref CO)
  l : mg "Lone" = some (.ref CL)
  s : mg "SlipError" = some (.ref CS)
theorem why_gives {X : Cx} {g CH CT CM CU CO CL CS : Addr} {cdg : Value} {q : Str} (W : WhyT X.mg CH CT CM CU CO CL CS) :
    GivesTo X ["_law_ask", "e"] "_law_why" (defScope sWhy) g cdg (defBody sWhy) "_law_ask" q (TTwhy X.K CH CT CM CU CO CL CS) := by
  intro f c' s H Q tl act hc h
  refine ⟨_, pss_one (ps_try_mix (X := (cxOf C8.CX0 X.prog X.w X.K X.mg X.base ["_law_ask", "e"] "_law_why" (defScope sWhy) g cdg X.A X.stack s H C8.E0).nox) (l := whyL X.K CH CT CM CU CO CL CS) (Wout := fun _ _ _ _ => False)
      (tb := fun W D σ H => ∃ Ech : XK, (∀ cls d σ' H', Ech cls d H' → W cls d σ' H') ∧ σ[0]? = some (some (.ref f)) ∧ H c' = some (CodeO c' q) ∧ tl Ech H (fun v H' => [V.str "told", v].length ≤ sizeLine ∧ ∀ p, H' p = none → D.rt (.ref p) (upd H' p (.tup [.str "told", v]))))
      rfl rfl L2.takes0 (fun W pn xe tk _ => ?_)
      (MixOk.as (i := 1) (c := .ref CH) (ts := clF X.K "nohouse" ["house"]) scWhy.nd rfl rfl ⟨rfl, by decide, Or.inl W.h⟩ (fun a oe cls d pn hz hf => pss_len (pss_one (ps_ret (pe_tup (pa_cons pe_str (pa_cons (pe_xg hz hf (pv 1)) pa_nil))))) rfl)
      (MixOk.as (i := 1) (c := .ref CT) (ts := clF X.K "notie" ["one", "other"]) scWhy.nd rfl rfl ⟨rfl, by decide, Or.inl W.t⟩ (fun a oe cls d pn hz hf => pss_len (pss_one (ps_ret (pe_tup (pa_cons pe_str (pa_cons (pe_xg hz hf (pv 1)) (pa_cons (pe_xg hz hf (pv 1)) pa_nil)))))) rfl)
      (MixOk.as (i := 1) (c := .ref CM) (ts := clF X.K "toomany" ["bound"]) scWhy.nd rfl rfl ⟨rfl, by decide, Or.inl W.m⟩ (fun a oe cls d pn hz hf => pss_len (pss_one (ps_ret (pe_tup (pa_cons pe_str (pa_cons (pe_xg hz hf (pv 1)) pa_nil))))) rfl)
      (MixOk.as (i := 1) (c := .ref CU) (ts := clF X.K "notunnel" ["number"]) scWhy.nd rfl rfl ⟨rfl, by decide, Or.inl W.u⟩ (fun a oe cls d pn hz hf => pss_len (pss_one (ps_ret (pe_tup (pa_cons pe_str (pa_cons (pe_xg hz hf (pv 1)) pa_nil))))) rfl)
      (MixOk.as (i := 1) (c := .ref CO) (ts := clF X.K "short" ["house"]) scWhy.nd rfl rfl ⟨rfl, by decide, Or.inl W.o⟩ (fun a oe cls d pn hz hf => pss_len (pss_one (ps_ret (pe_tup (pa_cons pe_str (pa_cons (pe_xg hz hf (pv 1)) pa_nil))))) rfl)
      (MixOk.as (i := 1) (c := .ref CL) (ts := clF X.K "lone" ["lot"]) scWhy.nd rfl rfl ⟨rfl, by decide, Or.inl W.l⟩ (fun a oe cls d pn hz hf => pss_len (pss_one (ps_ret (pe_tup (pa_cons pe_str (pa_cons (pe_xg hz hf (pv 1)) pa_nil))))) rfl)
      (MixOk.as (i := 1) (c := .ref CS) (ts := clW X.K) scWhy.nd rfl rfl ⟨rfl, by decide, Or.inl W.s⟩ (fun a oe cls d pn hz hf => pss_len (pss_one (ps_ret (pe_tup (pa_cons (pe_xg hz hf (pv 1)) pa_nil)))) rfl) .nil)))))))), ?_⟩
  · refine ⟨fun pins s' σ H' D I h' => ?_⟩
    obtain ⟨Ech, hW, h1, h2, h3⟩ := h'
    exact (pss_one (ps_ret (pe_tup (pa_cons pe_str (pa_cons (act W pn xe Ech _ _ tk hW) pa_nil))))).run pins s' σ H' D I ⟨h1, h2, h3⟩
  · exact ⟨Ewhy X.K CH CT CM CU CO CL CS _, fun cls d σ' H' e => e σ', rfl, hc, h⟩
end
end K


namespace K
open PySem PySem.Spec PyProof.Rows L2
open Sw (T3 Dist at? relax roundOf rounds IsNext Cand IsFar nbr candL WayTo lotOf)
abbrev sNextsB : Stmt := top 15
abbrev sFarHB : Stmt := top 20
abbrev sLeastB : Stmt := top 17
abbrev sRoundB : Stmt := top 22
def inH (n : Nat) (h : Int) : Prop := 0 ≤ h ∧ h < n
/-- a goal that there is none of -/
def spB3 (CH : Addr) : Sp := fun vs H Q E => ∃ (n : Nat) (v : V) (g : Int), vs = [.int (n : Nat), v, .int g] ∧ g.natAbs.log2 < 1920 ∧ ¬ (0 ≤ g ∧ g < n) ∧ HouseX CH g H E
def spB4h (CH : Addr) : Sp := fun vs H Q E => ∃ (n : Nat) (v u : V) (g : Int), vs = [.int (n : Nat), v, .int g, u] ∧ g.natAbs.log2 < 1920 ∧ ¬ (0 ≤ g ∧ g < n) ∧ HouseX CH g H E
def spB4 (CH : Addr) : Sp := fun vs H Q E => ∃ (n : Nat) (v : V) (s g : Int), vs = [.int (n : Nat), v, .int s, .int g] ∧ s.natAbs.log2 < 1920 ∧ g.natAbs.log2 < 1920 ∧ ((¬ (0 ≤ s ∧ s < n) ∧ HouseX CH s H E) ∨ ((0 ≤ s ∧ s < n) ∧ ¬ (0 ≤ g ∧ g < n) ∧ HouseX CH g H E))
section
variable {P : Program} {w : World} {K : PySem.W.Frag} {mg : Str → Option Value} {base : Heap}
theorem scNextsB : FnScope ["many", "ties", "goal", "prices", "house"] ["many", "ties", "goal"] (defScope sNextsB) := ⟨rfl, rfl, rfl, by decide +kernel, rfl, by decide +kernel, by decide +kernel⟩
theorem scFarHB : FnScope ["many", "ties", "goal", "told", "one", "other", "price", "house"] ["many", "ties", "goal", "told"] (defScope sFarHB) := ⟨rfl, rfl, rfl, by decide +kernel, rfl, by decide +kernel, by decide +kernel⟩
theorem scLeastB : FnScope ["many", "ties", "start", "goal", "price", "onward", "way"] ["many", "ties", "start", "goal"] (defScope sLeastB) := ⟨rfl, rfl, rfl, by decide +kernel, rfl, by decide +kernel, by decide +kernel⟩
theorem scRoundB : FnScope ["many", "ties", "one", "other", "gone"] ["many", "ties", "one", "other"] (defScope sRoundB) := ⟨rfl, rfl, rfl, by decide +kernel, rfl, by decide +kernel, by decide +kernel⟩
theorem ok_farB {f CH fC : Addr} {fd fdC : FuncData} {k : Nat} (F : Fun K "far" "far" sFar f fd) (cX : CalX P w K mg base (k + 1) "check_house" fC fdC ["many", "house"] (spCheckX CH)) : FnOk P w K mg base (L2.CX P w) (k + 2) f fd ["many", "ties", "goal"] (spB3 CH) := by
  refine F.okX scFar (fun vs H Q E h => ?_) (fun cdv A outer s H vs Q E hr h => ?_)
  · obtain ⟨n, v, g, rfl, _⟩ := h
    rfl
  · obtain ⟨n, v, g, rfl, hg, hb, hX⟩ := h
    refine ⟨_, pss_cons (ps_expr (pe_call cX.ok hr (by rfl) cX.g cX.kp cX.b .nil (passes_call (takes_of rfl rfl rfl rfl) (fun _ _ _ _ h => h)) (pa_cons (pv 0) (pa_cons (pv 2) pa_nil)))) (pss_cons ps_never (pss_cons ps_never (pss_cons ps_never (pss_one ps_never)))), ?_⟩
    exact ⟨_, rfl, _, rfl, n, g, rfl, hg, fun z => absurd z hb, fun _ => hX⟩
theorem ok_nextsB {f CH fC : Addr} {fd fdC : FuncData} {k : Nat} (F : Fun K "nexts" "nexts" sNextsB f fd) (cF : CalX P w K mg base (k + 1) "far" fC fdC ["many", "ties", "goal"] (spB3 CH)) : FnOk P w K mg base (L2.CX P w) (k + 2) f fd ["many", "ties", "goal"] (spB3 CH) := by
  refine F.okX scNextsB (fun vs H Q E h => ?_) (fun cdv A outer s H vs Q E hr h => ?_)
  · obtain ⟨n, v, g, rfl, _⟩ := h
    rfl
  · obtain ⟨n, v, g, rfl, hg, hb, hX⟩ := h
    refine ⟨_, pss_cons (ps_set (i := 3) scNextsB.nd rfl (.inr rfl) (pe_call cF.ok hr (by rfl) cF.g cF.kp cF.b .nil (passes_call (takes_of rfl rfl rfl rfl) (fun _ _ _ _ h => h)) (pa_cons (pv 0) (pa_cons (pv 1) (pa_cons (pv 2) pa_nil))))) (pss_one ps_never), ?_⟩
    exact ⟨_, rfl, _, rfl, _, rfl, n, v, g, rfl, hg, hb, hX⟩
theorem ok_farHB {f CH fC : Addr} {fd fdC : FuncData} {k : Nat} (F : Fun K "far_holds" "far_holds" sFarHB f fd) (cX : CalX P w K mg base (k + 1) "check_house" fC fdC ["many", "house"] (spCheckX CH)) : FnOk P w K mg base (L2.CX P w) (k + 2) f fd ["many", "ties", "goal", "told"] (spB4h CH) := by
  refine F.okX scFarHB (fun vs H Q E h => ?_) (fun cdv A outer s H vs Q E hr h => ?_)
  · obtain ⟨n, v, u, g, rfl, _⟩ := h
    rfl
  · obtain ⟨n, v, u, g, rfl, hg, hb, hX⟩ := h
    refine ⟨_, pss_cons (ps_expr (pe_call cX.ok hr (by rfl) cX.g cX.kp cX.b .nil (passes_call (takes_of rfl rfl rfl rfl) (fun _ _ _ _ h => h)) (pa_cons (pv 0) (pa_cons (pv 2) pa_nil)))) (pss_cons ps_never (pss_cons ps_never (pss_one ps_never))), ?_⟩
    exact ⟨_, rfl, _, rfl, n, g, rfl, hg, fun z => absurd z hb, fun _ => hX⟩
theorem ok_leastB {f CH fC : Addr} {fd fdC : FuncData} {k : Nat} (F : Fun K "least_way" "least_way" sLeastB f fd) (cX : CalX P w K mg base (k + 1) "check_house" fC fdC ["many", "house"] (spCheckX CH)) : FnOk P w K mg base (L2.CX P w) (k + 2) f fd ["many", "ties", "start", "goal"] (spB4 CH) := by
  refine F.okX scLeastB (fun vs H Q E h => ?_) (fun cdv A outer s H vs Q E hr h => ?_)
  · obtain ⟨n, v, s, g, rfl, _⟩ := h
    rfl
  · obtain ⟨n, v, s, g, rfl, hs, hg, hX⟩ := h
    refine ⟨_, pss_cons (ps_expr (pe_call cX.ok hr (by rfl) cX.g cX.kp cX.b .nil (passes_call (takes_of rfl rfl rfl rfl) (fun _ _ _ _ h => h)) (pa_cons (pv 0) (pa_cons (pv 2) pa_nil)))) (pss_cons (ps_expr (pe_call cX.ok hr (by rfl) cX.g cX.kp cX.b .nil (passes_call (takes_of rfl rfl rfl rfl) (fun _ _ _ _ h => h)) (pa_cons (pv 0) (pa_cons (pv 3) pa_nil)))) (pss_cons ps_never (pss_cons ps_never (pss_cons ps_never (pss_cons ps_never (pss_cons ps_never (pss_one ps_never))))))), ?_⟩
    refine ⟨_, rfl, _, rfl, n, s, rfl, hs, fun z => ?_, fun z => ?_⟩
    · rcases hX with ⟨c, _⟩ | ⟨_, c, hX⟩
      · exact absurd z c
      · exact ⟨_, rfl, _, rfl, n, g, rfl, hg, fun z => absurd z c, fun _ => hX⟩
    · rcases hX with ⟨_, hX⟩ | ⟨c, _⟩
      · exact hX
      · exact absurd c z
theorem ok_roundB {f CH fC : Addr} {fd fdC : FuncData} {k : Nat} (F : Fun K "round_way" "round_way" sRoundB f fd) (cX : CalX P w K mg base (k + 1) "check_house" fC fdC ["many", "house"] (spCheckX CH)) : FnOk P w K mg base (L2.CX P w) (k + 2) f fd ["many", "ties", "one", "other"] (spB4 CH) := by
  refine F.okX scRoundB (fun vs H Q E h => ?_) (fun cdv A outer s H vs Q E hr h => ?_)
  · obtain ⟨n, v, s, g, rfl, _⟩ := h
    rfl
  · obtain ⟨n, v, s, g, rfl, hs, hg, hX⟩ := h
    refine ⟨_, pss_cons (ps_expr (pe_call cX.ok hr (by rfl) cX.g cX.kp cX.b .nil (passes_call (takes_of rfl rfl rfl rfl) (fun _ _ _ _ h => h)) (pa_cons (pv 0) (pa_cons (pv 2) pa_nil)))) (pss_cons (ps_expr (pe_call cX.ok hr (by rfl) cX.g cX.kp cX.b .nil (passes_call (takes_of rfl rfl rfl rfl) (fun _ _ _ _ h => h)) (pa_cons (pv 0) (pa_cons (pv 3) pa_nil)))) (pss_cons ps_never (pss_one ps_never))), ?_⟩
    refine ⟨_, rfl, _, rfl, n, s, rfl, hs, fun z => ?_, fun z => ?_⟩
    · rcases hX with ⟨c, _⟩ | ⟨_, c, hX⟩
      · exact absurd z c
      · exact ⟨_, rfl, _, rfl, n, g, rfl, hg, fun z => absurd z c, fun _ => hX⟩
    · rcases hX with ⟨_, hX⟩ | ⟨c, _⟩
      · exact hX
      · exact absurd c z
end
end K

namespace K
open PySem PySem.Spec PyProof.Rows L2
open Sw (T3 Dist at? relax roundOf rounds IsNext Cand IsFar nbr candL WayTo lotOf)
open LamX
abbrev sLaw : Stmt := top 32
def qL : Str := "law.<locals>.<lambda>"
def spLawT (K : PySem.W.Frag) (PT : Addr) : Sp := fun vs H Q _ => ∃ (a : Addr) (ns : List Int), vs = [.ref a] ∧ SqL K H a (ns.map V.int) ∧ ns.length ≤ 63 ∧ Tabs [(PT, qL)] H ∧ ∀ H', Q (.bl true) H'
theorem tabs_but {H H' : Hp} {PT p q : Addr} (t : Tabs [(PT, qL)] H) (B : BoxAt H p q) (b : But p H H') : Tabs [(PT, qL)] H' := by
  intro z hz
  rw [List.mem_singleton.mp hz]
  obtain ⟨ps, h1, h2, h3⟩ := t (PT, qL) (by simp)
  obtain ⟨ms, i, u, v, hp, _⟩ := B
  have ne : ∀ {y o}, H y = some o → (∀ xs, o ≠ .lst xs) → y ≠ p := fun e n q => by rw [q, hp] at e; exact n _ (Option.some.inj e).symm
  refine ⟨ps, b _ _ h1 (ne h1 (fun xs z => by cases z)), h2, fun pos cv hc => ?_⟩
  obtain ⟨c, e1, e2⟩ := h3 pos cv hc
  exact ⟨c, e1, b _ _ e2 (ne e2 (fun xs z => by cases z))⟩
theorem box_extN {H H' : Hp} {p q : Addr} (B : BoxAt H p q) (e : ExtN H H') : BoxAt H' p q := by
  obtain ⟨ms, i, u, v, h1, h2, r⟩ := B
  exact ⟨ms, i, u, v, e _ _ h1 (fun ps z => by cases z), e _ _ h2 (fun ps z => by cases z), r⟩
theorem ties_extN {H H' : Hp} {t : Addr} {ts : List T3} (h : TiesAt H t ts) (e : ExtN H H') : TiesAt H' t ts := by
  obtain ⟨as, h1, h2⟩ := h
  exact ⟨as, e _ _ h1 (fun ps z => by cases z), paired_mono (fun x y z => e _ _ z (fun ps q => by cases q)) h2⟩
theorem slot_at {σ : L2.St} {v : Option V} (h : (slotN (some 1) v σ).length = 2) : (slotN (some 1) v σ)[1]? = some v := by
  have h : (σ.set 1 v).length = 2 := h
  rw [List.length_set] at h
  show (σ.set 1 v)[1]? = some v
  rw [List.getElem?_set_self (by omega)]
theorem extN_same {H H1 H2 : Hp} (e : ExtN H H1) (s : Same H1 H2) : ExtN H H2 := fun b o h n => s _ _ (e b o h n)
theorem wild_log {z : Int} (h : z = -1 ∨ z = 8 ∨ z = 9 ∨ z = 10 ^ 20 ∨ z = -(10 ^ 30)) : z.natAbs.log2 < 1920 := by
  rcases h with r | r | r | r | r <;> subst r <;> decide +kernel
/-- what a turn of asking has told -/
def tolds (H : Hp) (odd : Int) (us : List Addr) : Prop := ∀ u ∈ us, H u = some (.tup [.str "nohouse", .int odd])
theorem eqv_tolds {H : Hp} {D l t : Addr} {odd : Int} {us : List Addr} {m : Nat} (hD : H D = some (.lst (us.map V.ref))) (hu : tolds H odd us) (hl : H l = some (.lst (List.replicate us.length (.ref t)))) (ht : H t = some (.tup [.str "nohouse", .int odd])) (hn : us.length ≤ 1000) : Eqv (m + 3) H (.ref D) (.ref l) := by
  refine .inr ⟨D, l, _, _, rfl, rfl, .inl ⟨hD, hl⟩, by rw [List.length_map, List.length_replicate], by rw [List.length_map]; exact hn, fun i u v eu ev => ?_⟩
  rw [List.getElem?_map] at eu
  obtain ⟨a, ea, rfl⟩ := Option.map_eq_some_iff.mp eu
  have ev := List.eq_of_mem_replicate (List.mem_of_getElem? ev)
  subst ev
  refine .inr ⟨a, t, _, _, rfl, rfl, .inr ⟨hu a (List.mem_of_getElem? ea), ht⟩, rfl, (by show 2 ≤ 1000; decide), fun i y z hy hz => ?_⟩
  rw [hy] at hz
  cases hz
  match i, hy with
  | 0, hy => cases hy; exact .inl ⟨rfl, rfl⟩
  | 1, hy => cases hy; exact .inl ⟨rfl, rfl⟩
  | i + 2, hy => simp at hy
/-- what stands while lambdas are made and asked -/
structure St66 (H : Hp) (PT p q t : Addr) (ts : List T3) (ks : List (Addr × Addr × HO)) (ds : List Addr) (ls : List (Addr × List V)) : Prop where
  box : BoxAt H p q
  tabs : Tabs [(PT, qL)] H
  ties : TiesAt H t ts
  kept : ∀ k ∈ ks, H k.1 = some k.2.2 ∧ H k.2.1 = some (CodeO k.2.1 qL) ∧ ∀ ps, k.2.2 ≠ .tbl ps
  dfl : ∀ d ∈ ds, H d = some (.tup [.int 0])
  lst : ∀ l ∈ ls, H l.1 = some (.lst l.2)
section
variable {H H1 : Hp} {PT p q t : Addr} {ts : List T3} {ks : List (Addr × Addr × HO)} {ds : List Addr} {ls : List (Addr × List V)}
theorem St66.ext (S : St66 H PT p q t ts ks ds ls) (e : ExtN H H1) (T : Tabs [(PT, qL)] H1) : St66 H1 PT p q t ts ks ds ls :=
  ⟨box_extN S.box e, T, ties_extN S.ties e, fun k m => ⟨e _ _ (S.kept k m).1 (S.kept k m).2.2, e _ _ (S.kept k m).2.1 codeO_ne, (S.kept k m).2.2⟩, fun d m => e _ _ (S.dfl d m) (fun ps z => by cases z), fun l m => e _ _ (S.lst l m) (fun ps z => by cases z)⟩
theorem St66.same (S : St66 H PT p q t ts ks ds ls) (s : Same H H1) : St66 H1 PT p q t ts ks ds ls := S.ext (ExtN.of s) (Tabs.ext S.tabs s)
theorem St66.list {l : Addr} {xs : List V} (S : St66 H PT p q t ts ks ds ls) (n : H l = none) : St66 (upd H l (.lst xs)) PT p q t ts ks ds (ls ++ [(l, xs)]) :=
  have S' := S.same (same_upd (o := .lst xs) n)
  ⟨S'.box, S'.tabs, S'.ties, S'.kept, S'.dfl, fun y m => by
    rcases List.mem_append.mp m with m | m
    · exact S'.lst y m
    · rw [List.mem_singleton.mp m]; exact upd_same⟩
theorem St66.lam {f c' : Addr} {o : HO} (S : St66 H PT p q t ts ks ds ls) (e : ExtN H H1) (T : Tabs [(PT, qL)] H1) (nf : H1 f = none) (hc : H1 c' = some (CodeO c' qL)) (no : ∀ ps, o ≠ .tbl ps) : St66 (upd H1 f o) PT p q t ts (ks ++ [(f, c', o)]) ds ls :=
  have S' := (S.ext e T).same (same_upd (o := o) nf)
  ⟨S'.box, S'.tabs, S'.ties, fun y m => by
    rcases List.mem_append.mp m with m | m
    · exact S'.kept y m
    · rw [List.mem_singleton.mp m]; exact ⟨upd_same, same_upd nf _ _ hc, no⟩, S'.dfl, S'.lst⟩
theorem St66.tup {d : Addr} (S : St66 H PT p q t ts ks ds ls) (n : H d = none) : St66 (upd H d (.tup [.int 0])) PT p q t ts ks (ds ++ [d]) ls :=
  have S' := S.same (same_upd (o := .tup [.int 0]) n)
  ⟨S'.box, S'.tabs, S'.ties, S'.kept, fun y m => by
    rcases List.mem_append.mp m with m | m
    · exact S'.dfl y m
    · rw [List.mem_singleton.mp m]; exact upd_same, S'.lst⟩
end
theorem ties_but {H H' : Hp} {p q t : Addr} {ts : List T3} (h : TiesAt H t ts) (B : BoxAt H p q) (ntp : t ≠ p) (b : But p H H') : TiesAt H' t ts := by
  obtain ⟨as, h1, h2⟩ := h
  obtain ⟨ms, i, u, v, hp, _⟩ := B
  exact ⟨as, b _ _ h1 ntp, paired_mono (fun x y z => b _ _ z (fun e => by rw [e, hp] at z; cases z)) h2⟩
theorem odd_of (n : Nat) (hn : n ≤ 8) {wz z : Int} (hw : wz = -1 ∨ wz = 8 ∨ wz = 9 ∨ wz = 10 ^ 20 ∨ wz = -(10 ^ 30)) (h0 : 0 ≤ z) (h1 : z < 5) : ∃ m : Int, atI [V.int (-1), V.int (n : Nat), V.int (-(n : Nat)), V.int 8, V.int wz] z = some (.int m) ∧ m.natAbs.log2 < 1920 := by
  have : z = 0 ∨ z = 1 ∨ z = 2 ∨ z = 3 ∨ z = 4 := by omega
  rcases this with r | r | r | r | r <;> subst r
  · exact ⟨_, rfl, by decide +kernel⟩
  · exact ⟨_, rfl, Nat.lt_of_le_of_lt (Nat.log2_le_self _) (by omega)⟩
  · exact ⟨_, rfl, Nat.lt_of_le_of_lt (Nat.log2_le_self _) (by omega)⟩
  · exact ⟨_, rfl, by decide +kernel⟩
  · exact ⟨_, rfl, wild_log hw⟩
section
variable {P : Program} {w : World} {K : PySem.W.Frag} {mg : Str → Option Value} {base : Heap}
theorem scLaw : FnScope ["_law_script", "_law_box_here", "_law_turn", "_law_many", "_law_ties", "_law_odd", "_law_good", "_law_told", "_law_asks", "_law_ask"] ["_law_script"] (defScope sLaw) := ⟨rfl, rfl, rfl, by decide +kernel, rfl, by decide +kernel, by decide +kernel⟩
theorem ok_law {f CH CT CM CU CO CL CS gW cT PT : Addr} {oc kV doc pm ct oc' kV' doc' pm' cd' ct' : Value} {od an od' an' : Option Addr} {osl osl' : Array (Option Value)} {f_law_box : Addr} {fd_law_box : FuncData} (c_law_box : Cal P w K mg base 11 "_law_box" f_law_box fd_law_box ["_law_script"] (spBox K)) {f_law_take : Addr} {fd_law_take : FuncData} (c_law_take : Cal P w K mg base 11 "_law_take" f_law_take fd_law_take ["_law_box_here", "_law_sides"] spTake) {f_law_wild : Addr} {fd_law_wild : FuncData} (c_law_wild : Cal P w K mg base 11 "_law_wild" f_law_wild fd_law_wild ["_law_box_here"] spWild) {f_law_some_ties : Addr} {fd_law_some_ties : FuncData} (c_law_some_ties : Cal P w K mg base 11 "_law_some_ties" f_law_some_ties fd_law_some_ties ["_law_box_here", "_law_many", "_law_odds"] spSome) {f_law_same : Addr} {fd_law_same : FuncData} (c_law_same : Cal P w K mg base 11 "_law_same" f_law_same fd_law_same ["_law_found", "_law_due"] (spSame 11)) {ffar : Addr} {fdfar : FuncData} (cfar : Cal P w K mg base 11 "far" ffar fdfar ["many", "ties", "goal"] spFar) {f_law_far : Addr} {fd_law_far : FuncData} (c_law_far : Cal P w K mg base 11 "_law_far" f_law_far fd_law_far ["_law_many", "_law_ties", "_law_goal"] spLFar) {fnexts : Addr} {ffar_holds : Addr} {fleast_way : Addr} {fround_way : Addr} {fdBfar : FuncData} (GBfar : FnOk P w K mg base (L2.CX P w) 9 ffar fdBfar ["many", "ties", "goal"] (spB3 CH)) (bBfar : Binds K fdBfar ["many", "ties", "goal"] []) (gBfar : mg "far" = some (.ref ffar)) (kBfar : PySem.W.keepIn K (.ref ffar) = true) {fdBnexts : FuncData} (GBnexts : FnOk P w K mg base (L2.CX P w) 9 fnexts fdBnexts ["many", "ties", "goal"] (spB3 CH)) (bBnexts : Binds K fdBnexts ["many", "ties", "goal"] []) (gBnexts : mg "nexts" = some (.ref fnexts)) (kBnexts : PySem.W.keepIn K (.ref fnexts) = true) {fdBfar_holds : FuncData} (GBfar_holds : FnOk P w K mg base (L2.CX P w) 9 ffar_holds fdBfar_holds ["many", "ties", "goal", "told"] (spB4h CH)) (bBfar_holds : Binds K fdBfar_holds ["many", "ties", "goal", "told"] []) (gBfar_holds : mg "far_holds" = some (.ref ffar_holds)) (kBfar_holds : PySem.W.keepIn K (.ref ffar_holds) = true) {fdBleast_way : FuncData} (GBleast_way : FnOk P w K mg base (L2.CX P w) 9 fleast_way fdBleast_way ["many", "ties", "start", "goal"] (spB4 CH)) (bBleast_way : Binds K fdBleast_way ["many", "ties", "start", "goal"] []) (gBleast_way : mg "least_way" = some (.ref fleast_way)) (kBleast_way : PySem.W.keepIn K (.ref fleast_way) = true) {fdBround_way : FuncData} (GBround_way : FnOk P w K mg base (L2.CX P w) 9 fround_way fdBround_way ["many", "ties", "one", "other"] (spB4 CH)) (bBround_way : Binds K fdBround_way ["many", "ties", "one", "other"] []) (gBround_way : mg "round_way" = some (.ref fround_way)) (kBround_way : PySem.W.keepIn K (.ref fround_way) = true)
    (lk : K.lookup f = some ⟨oc, od, .func (PySem.W.fnOf "law" "law" (defArgs sLaw) (defBody sLaw) (defScope sLaw) .none kV doc pm an (.ref cT) ct), osl⟩) (hcd : PySem.W.codeIn K (.ref cT) "law" = true) (T : BT mg)
    (gw : mg "_law_why" = some (.ref gW)) (kw : PySem.W.keepIn K (.ref gW) = true) (lkw : K.lookup gW = some ⟨oc', od', .func (PySem.W.fnOf "_law_why" "_law_why" (defArgs sWhy) (defBody sWhy) (defScope sWhy) .none kV' doc' pm' an' cd' ct'), osl'⟩) (cw : PySem.W.codeIn K cd' "_law_why" = true)
    (bw : Binds K (PySem.W.fnOf "_law_why" "_law_why" (defArgs sWhy) (defBody sWhy) (defScope sWhy) .none kV' doc' pm' an' cd' ct') ["_law_ask"] []) (WT : WhyT mg CH CT CM CU CO CL CS) (TB : TabB base mg cT PT)
    (eHH : PySem.W.exmOne K (.ref CH) (.ref CH) = some true) (xH : XfC K CH) (flH : PySem.W.findIn K (.ref CH) "house" = some none) :
    FnOk P w K mg base CX0 12 f (PySem.W.fnOf "law" "law" (defArgs sLaw) (defBody sLaw) (defScope sLaw) .none kV doc pm an (.ref cT) ct) ["_law_script"] (spLawT K PT) := by
  refine fn_of lk hcd scLaw (fun vs H Q E h => ?_) (fun A outer s H vs Q E hr h => ?_)
  · obtain ⟨a, ns, rfl, _⟩ := h
    rfl
  · obtain ⟨a, ns, rfl, hS, hlen, hT, kk⟩ := h
    refine ⟨_, PSs.nox (pss_cons (ps_set (i := 1) scLaw.nd rfl (.inl rfl) (pe_call c_law_box.ok hr (by rfl) c_law_box.g c_law_box.kp c_law_box.b .nil pass0 (pa_cons (pv 0) pa_nil)))
      (pss_cons (ps_for PassesOwn.never rfl (pi_range1 (by rfl) T.range (pa_cons pe_int pa_nil)) (pg_name (i := 2) scLaw.nd rfl (Or.inl rfl))
        (pss_cons (ps_set (i := 3) scLaw.nd rfl (.inr rfl) (pe_op op_add pe_int (pe_call c_law_take.ok hr (by rfl) c_law_take.g c_law_take.kp c_law_take.b .nil pass0 (pa_cons (pv 1) (pa_cons pe_int pa_nil)))))
        (pss_cons (ps_set (i := 4) scLaw.nd rfl (.inr rfl) (pe_call c_law_some_ties.ok hr (by rfl) c_law_some_ties.g c_law_some_ties.kp c_law_some_ties.b .nil pass0 (pa_cons (pv 1) (pa_cons (pv 3) (pa_cons (pe_op op_add pe_int (pe_call c_law_take.ok hr (by rfl) c_law_take.g c_law_take.kp c_law_take.b .nil pass0 (pa_cons (pv 1) (pa_cons pe_int pa_nil)))) pa_nil)))))
        (pss_cons (ps_set (i := 5) scLaw.nd rfl (.inr rfl) (pe_ix (r := rIxL K) ix_list (pe_lst (pa_cons (pe_un un_neg pe_int) (pa_cons (pv 3) (pa_cons (pe_un un_neg (pv 3)) (pa_cons pe_int (pa_cons (pe_call c_law_wild.ok hr (by rfl) c_law_wild.g c_law_wild.kp c_law_wild.b .nil pass0 (pa_cons (pv 1) pa_nil)) pa_nil)))))) (pe_call c_law_take.ok hr (by rfl) c_law_take.g c_law_take.kp c_law_take.b .nil pass0 (pa_cons (pv 1) (pa_cons pe_int pa_nil))) (fun _ _ => rfl)))
        (pss_cons (ps_set (i := 6) scLaw.nd rfl (.inr rfl) (pe_call c_law_take.ok hr (by rfl) c_law_take.g c_law_take.kp c_law_take.b .nil pass0 (pa_cons (pv 1) (pa_cons (pv 3) pa_nil))))
        (pss_cons (ps_if (pt_not (pt_chain op_le op_lt pe_int (pv 5) (pv 3)))
          (pss_cons (ps_set (i := 7) scLaw.nd rfl (.inr rfl) (pe_op op_rep (pe_lst (pa_cons pe_non pa_nil)) (pe_call c_law_take.ok hr (by rfl) c_law_take.g c_law_take.kp c_law_take.b .nil pass0 (pa_cons (pv 1) (pa_cons pe_int pa_nil)))))
          (pss_cons (ps_set (i := 8) scLaw.nd rfl (.inl rfl) (pe_lst (pa_cons (LamV.pe_lam0 (T := [(PT, qL)]) (q := qL) TB rfl rfl (List.mem_singleton.mpr rfl) (fun p hp _ => by rw [List.mem_singleton.mp hp]) rfl (LamV.lamN_by (N := ["_law_script", "_law_box_here", "_law_turn", "_law_many", "_law_ties", "_law_odd", "_law_good", "_law_told", "_law_asks", "_law_ask"]) (sc := defScope sLaw) (by decide +kernel)).free ⟨_, _, rfl⟩) (pa_cons (LamV.pe_lam1 (T := [(PT, qL)]) (q := qL) TB rfl rfl (List.mem_singleton.mpr rfl) (fun p hp _ => by rw [List.mem_singleton.mp hp]) rfl pe_int (LamV.lamN_by (N := ["_law_script", "_law_box_here", "_law_turn", "_law_many", "_law_ties", "_law_odd", "_law_good", "_law_told", "_law_asks", "_law_ask"]) (sc := defScope sLaw) (by decide +kernel)).free ⟨_, _, rfl⟩) pa_nil))))
          (pss_cons (ps_set (i := 8) scLaw.nd rfl (.inl rfl) (pe_op op_cat (pv 8) (pe_lst (pa_cons (LamV.pe_lam0 (T := [(PT, qL)]) (q := qL) TB rfl rfl (List.mem_singleton.mpr rfl) (fun p hp _ => by rw [List.mem_singleton.mp hp]) rfl (LamV.lamN_by (N := ["_law_script", "_law_box_here", "_law_turn", "_law_many", "_law_ties", "_law_odd", "_law_good", "_law_told", "_law_asks", "_law_ask"]) (sc := defScope sLaw) (by decide +kernel)).free ⟨_, _, rfl⟩) (pa_cons (LamV.pe_lam1 (T := [(PT, qL)]) (q := qL) TB rfl rfl (List.mem_singleton.mpr rfl) (fun p hp _ => by rw [List.mem_singleton.mp hp]) rfl pe_int (LamV.lamN_by (N := ["_law_script", "_law_box_here", "_law_turn", "_law_many", "_law_ties", "_law_odd", "_law_good", "_law_told", "_law_asks", "_law_ask"]) (sc := defScope sLaw) (by decide +kernel)).free ⟨_, _, rfl⟩) pa_nil)))))
          (pss_cons (ps_set (i := 8) scLaw.nd rfl (.inl rfl) (pe_op op_cat (pv 8) (pe_lst (pa_cons (LamV.pe_lam0 (T := [(PT, qL)]) (q := qL) TB rfl rfl (List.mem_singleton.mpr rfl) (fun p hp _ => by rw [List.mem_singleton.mp hp]) rfl (LamV.lamN_by (N := ["_law_script", "_law_box_here", "_law_turn", "_law_many", "_law_ties", "_law_odd", "_law_good", "_law_told", "_law_asks", "_law_ask"]) (sc := defScope sLaw) (by decide +kernel)).free ⟨_, _, rfl⟩) (pa_cons (LamV.pe_lam1 (T := [(PT, qL)]) (q := qL) TB rfl rfl (List.mem_singleton.mpr rfl) (fun p hp _ => by rw [List.mem_singleton.mp hp]) rfl pe_int (LamV.lamN_by (N := ["_law_script", "_law_box_here", "_law_turn", "_law_many", "_law_ties", "_law_odd", "_law_good", "_law_told", "_law_asks", "_law_ask"]) (sc := defScope sLaw) (by decide +kernel)).free ⟨_, _, rfl⟩) pa_nil)))))
          (pss_one (ps_if (pt_not (pt_val (pe_call c_law_same.ok hr (by rfl) c_law_same.g c_law_same.kp c_law_same.b .nil pass0 (pa_cons (LamV.pe_lcI (own := [("_law_ask", 9)]) (g := gName 9) (tt := tYes) rfl scLaw.nd (by exact (pi_list (pv 8))) (blkOk_by (own := [("_law_ask", 9)]) (N := ["_law_script", "_law_box_here", "_law_turn", "_law_many", "_law_ties", "_law_odd", "_law_good", "_law_told", "_law_asks", "_law_ask"]) (sc := defScope sLaw) (by decide +kernel)) (fun _ _ _ _ _ => by exact (pg_name (i := 9) scLaw.nd rfl (Or.inl rfl))) (fun _ _ _ _ _ => by exact pts_nil) (fun _ _ _ _ _ => by exact  (LamV.el_ask (q := qL) (TT := TTwhy K CH CT CM CU CO CL CS) (k := 9) (j := 9) (vs := [9]) (Ng := ["_law_ask", "e"]) (by rfl) gw kw lkw cw bw scWhy (why_gives WT) hr rfl (Or.inl rfl)))) (pa_cons (pe_op op_rep (pe_lst (pa_cons (pe_tup (pa_cons pe_str (pa_cons (pv 5) pa_nil))) pa_nil)) pe_int) pa_nil)))))
            (pss_one (ps_ret pe_bl))
            pss_nil))))))
          pss_nil)
        (pss_one (ps_if (pt_not (pt_val (pe_call c_law_same.ok hr (by rfl) c_law_same.g c_law_same.kp c_law_same.b .nil pass0 (pa_cons (pe_call cfar.ok hr (by rfl) cfar.g cfar.kp cfar.b .nil pass0 (pa_cons (pv 3) (pa_cons (pv 4) (pa_cons (pv 6) pa_nil)))) (pa_cons (pe_call c_law_far.ok hr (by rfl) c_law_far.g c_law_far.kp c_law_far.b .nil pass0 (pa_cons (pv 3) (pa_cons (pv 4) (pa_cons (pv 6) pa_nil)))) pa_nil)))))
          (pss_one (ps_ret pe_bl))
          pss_nil))))))))
      (pss_one (ps_ret pe_bl)))), ?_⟩
    refine ⟨_, rfl, a, ns, rfl, hS, hlen, fun p q H1 np nq B1 s1 => ?_⟩
    have T1 : Tabs [(PT, qL)] H1 := hT.ext s1
    refine ⟨4, rfl, by decide, by decide, for_range (n := 4) (fun i σ H' => (∃ y2 y3 y4 y5 y6 y7 y8 y9, σ = [some (.ref a), some (.ref p), y2, y3, y4, y5, y6, y7, y8, y9]) ∧ BoxAt H' p q ∧ Tabs [(PT, qL)] H') ⟨⟨_, _, _, _, _, _, _, _, rfl⟩, B1, T1⟩ ?_ ?_⟩
    · rintro i σ H2 hi ⟨⟨y2, y3, y4, y5, y6, y7, y8, y9, rfl⟩, B2, T2⟩
      refine ⟨_, rfl, p, q, 8, rfl, B2, by omega, by omega, fun z H3 hz0 hz1 B3 b3 => ?_⟩
      have T3' := tabs_but T2 B2 b3
      refine ⟨_, _, rfl, rfl, ?_⟩
      obtain ⟨n, en⟩ : ∃ n : Nat, 1 + z = (n : Nat) := ⟨(1 + z).toNat, by omega⟩
      show gName 3 (V.int (1 + z)) _ _ _
      rw [en]
      have hn0 : 0 < n := by omega
      have hn8 : n ≤ 8 := by omega
      refine ⟨_, rfl, _, rfl, _, rfl, p, q, 8, rfl, B3, by omega, by omega, fun z4 H4 hz40 hz41 B4 b4 => ?_⟩
      have T4 := tabs_but T3' B3 b4
      refine ⟨_, _, rfl, rfl, p, q, n, _, rfl, B4, hn0, hn8, fun t H5 ts nt B5 b5 hT5 hG5 hL5 => ?_⟩
      have T5 := tabs_but T4 B4 b5
      -- an odd house
      refine ⟨1, rfl, _, rfl, _, rfl, _, rfl, _, rfl, p, q, rfl, B5, fun wz H6 hw B6 b6 => ⟨(by show 5 ≤ sizeLine; decide), fun l nl => ?_⟩⟩
      obtain ⟨o6, ep6⟩ := B6.p_some
      have nlp : l ≠ p := Ne.symm (ne_of_none ep6 nl)
      have s7 := same_upd (o := .lst [.int (-1), .int (n : Nat), .int (-(n : Nat)), .int 8, .int wz]) nl
      refine ⟨_, rfl, p, q, 5, rfl, B6.same s7, by omega, by omega, fun z5 H8 h50 h51 B8 b8 => ?_⟩
      have hl8 := b8 _ _ (upd_same (H := H6) (a := l) (o := .lst [.int (-1), .int (n : Nat), .int (-(n : Nat)), .int 8, .int wz])) nlp
      obtain ⟨odd, hodd, hlog⟩ := odd_of n hn8 hw h50 h51
      refine ⟨l, _, z5, .int odd, rfl, rfl, SqL.of hl8, hodd, ?_⟩
      obtain ⟨o4, ep4⟩ := B4.p_some
      have ntp : t ≠ p := Ne.symm (ne_of_none ep4 nt)
      have T6 := tabs_but T5 B5 b6
      have T8 := tabs_but (Tabs.ext T6 s7) (B6.same s7) b8
      have hT8 := ties_but ((ties_but hT5 B5 ntp b6).same s7) (B6.same s7) ntp b8
      refine ⟨_, rfl, _, rfl, p, q, (n : Nat), rfl, B8, by omega, by omega, fun zg H9 hg0 hg1 B9 b9 => ?_⟩
      obtain ⟨g, rfl⟩ : ∃ g : Nat, zg = (g : Nat) := ⟨zg.toNat, by omega⟩
      have hg : g < n := by omega
      have hF : Fits n ts := hG5.fits
      have hglog : ((g : Nat) : Int).natAbs.log2 < 1920 := Nat.lt_of_le_of_lt (Nat.log2_le_self _) (by omega)
      have hdl : (farD n ts g).length ≤ 1000 := by unfold farD; rw [Sw.rounds_len]; simp [Sw.start]; omega
      have S : St66 H9 PT p q t ts [] [] [] := ⟨B9, tabs_but T8 B8 b9, ties_but hT8 B8 ntp b9, (fun k m => by cases m), (fun k m => by cases m), (fun k m => by cases m)⟩
      obtain ⟨o9, ep9⟩ := S.box.p_some
      refine ⟨_, rfl, _, _, rfl, rfl, _, rfl, ?_⟩
      have key : odd < 0 ∨ (0 ≤ odd ∧ (n : Int) ≤ odd) ∨ (0 ≤ odd ∧ odd < n) := by omega
      rcases key with c | c | c
      · have hbad : ¬ (0 ≤ odd ∧ odd < (n : Int)) := by omega
        refine ifF (decide_eq_false (by omega)) ⟨_, rfl, iteT ?_⟩
        refine ⟨(by show 1 ≤ sizeLine; decide), fun l2 nl2 => ?_⟩
        have S := S.list (xs := [.non]) nl2
        have nl2p : l2 ≠ p := Ne.symm (ne_of_none ep9 nl2)
        have hl2 := S.lst (l2, [.non]) (by simp)
        generalize upd H9 l2 (.lst [.non]) = H10 at *
        refine ⟨_, rfl, p, q, 10, rfl, S.box, by omega, by omega, fun zt H11 ht0 ht1 B11 b11 => ?_⟩
        have S : St66 H11 PT p q t ts [] [] [] := ⟨B11, tabs_but S.tabs S.box b11, ties_but S.ties S.box ntp b11, (fun k m => by cases m), (fun k m => by cases m), (fun k m => by cases m)⟩
        refine ⟨l2, zt, _, rfl, rfl, b11 _ _ hl2 nl2p, by omega, by omega, ?_, fun lt nlt => ?_⟩
        · show 1 * zt.toNat ≤ sizeLine
          have : (10 : Nat) ≤ sizeLine := by decide
          omega
        have S := S.list (xs := (List.replicate zt.toNat [V.non]).flatten) nlt
        generalize upd H11 lt (.lst (List.replicate zt.toNat [V.non]).flatten) = H12 at *
        refine ⟨S.tabs, fun f0 c0 Hl0 el0 Tl0 nf0 hc0 => ?_⟩
        generalize hO0 : LamV.LamO f0 qL _ _ _ _ c0 Value.none = o0
        have S := S.lam (o := o0) el0 Tl0 nf0 hc0 (by rw [← hO0]; exact LamV.lamO_ne)
        generalize upd Hl0 f0 o0 = Hm0 at *
        refine ⟨S.tabs, fun d1 f1 c1 Hk1 Hl1 nd1 eHk1 el1 Tl1 nf1 hc1 => ?_⟩
        generalize hO1 : LamV.LamO f1 qL _ _ _ _ c1 (Value.ref d1) = o1
        have S := S.tup nd1
        rw [← eHk1] at S
        have S := S.lam (o := o1) el1 Tl1 nf1 hc1 (by rw [← hO1]; exact LamV.lamO_ne)
        generalize upd Hl1 f1 o1 = Hm1 at *
        refine ⟨(by show 2 ≤ sizeLine; decide), fun la nla => ?_⟩
        have S := S.list (xs := [.ref f0, .ref f1]) nla
        have hla := S.lst (la, [.ref f0, .ref f1]) (by simp)
        generalize upd Hm1 la (.lst [.ref f0, .ref f1]) = H13 at *
        refine ⟨_, rfl, ?_⟩
        refine ⟨S.tabs, fun f2 c2 Hl2 el2 Tl2 nf2 hc2 => ?_⟩
        generalize hO2 : LamV.LamO f2 qL _ _ _ _ c2 Value.none = o2
        have S := S.lam (o := o2) el2 Tl2 nf2 hc2 (by rw [← hO2]; exact LamV.lamO_ne)
        generalize upd Hl2 f2 o2 = Hm2 at *
        refine ⟨S.tabs, fun d3 f3 c3 Hk3 Hl3 nd3 eHk3 el3 Tl3 nf3 hc3 => ?_⟩
        generalize hO3 : LamV.LamO f3 qL _ _ _ _ c3 (Value.ref d3) = o3
        have S := S.tup nd3
        rw [← eHk3] at S
        have S := S.lam (o := o3) el3 Tl3 nf3 hc3 (by rw [← hO3]; exact LamV.lamO_ne)
        generalize upd Hl3 f3 o3 = Hm3 at *
        refine ⟨(by show 2 ≤ sizeLine; decide), fun lb nlb => ?_⟩
        have S := S.list (xs := [.ref f2, .ref f3]) nlb
        generalize upd Hm3 lb (.lst [.ref f2, .ref f3]) = H14 at *
        refine ⟨la, lb, _, _, rfl, rfl, S.lst (la, [.ref f0, .ref f1]) (by simp), S.lst (lb, [.ref f2, .ref f3]) (by simp), (by show 4 ≤ sizeLine; decide), fun lc nlc => ?_⟩
        have S := S.list (xs := [.ref f0, .ref f1] ++ [.ref f2, .ref f3]) nlc
        generalize upd H14 lc (.lst ([.ref f0, .ref f1] ++ [.ref f2, .ref f3])) = H15 at *
        refine ⟨_, rfl, ?_⟩
        refine ⟨S.tabs, fun f4 c4 Hl4 el4 Tl4 nf4 hc4 => ?_⟩
        generalize hO4 : LamV.LamO f4 qL _ _ _ _ c4 Value.none = o4
        have S := S.lam (o := o4) el4 Tl4 nf4 hc4 (by rw [← hO4]; exact LamV.lamO_ne)
        generalize upd Hl4 f4 o4 = Hm4 at *
        refine ⟨S.tabs, fun d5 f5 c5 Hk5 Hl5 nd5 eHk5 el5 Tl5 nf5 hc5 => ?_⟩
        generalize hO5 : LamV.LamO f5 qL _ _ _ _ c5 (Value.ref d5) = o5
        have S := S.tup nd5
        rw [← eHk5] at S
        have S := S.lam (o := o5) el5 Tl5 nf5 hc5 (by rw [← hO5]; exact LamV.lamO_ne)
        generalize upd Hl5 f5 o5 = Hm5 at *
        refine ⟨(by show 2 ≤ sizeLine; decide), fun ld nld => ?_⟩
        have S := S.list (xs := [.ref f4, .ref f5]) nld
        generalize upd Hm5 ld (.lst [.ref f4, .ref f5]) = H16 at *
        refine ⟨lc, ld, _, _, rfl, rfl, S.lst (lc, [.ref f0, .ref f1] ++ [.ref f2, .ref f3]) (by simp), S.lst (ld, [.ref f4, .ref f5]) (by simp), (by show 6 ≤ sizeLine; decide), fun le nle => ?_⟩
        have S := S.list (xs := [.ref f0, .ref f1] ++ [.ref f2, .ref f3] ++ [.ref f4, .ref f5]) nle
        generalize upd H16 le (.lst ([.ref f0, .ref f1] ++ [.ref f2, .ref f3] ++ [.ref f4, .ref f5])) = H17 at *
        have hle : H17 le = some (.lst [.ref f0, .ref f1, .ref f2, .ref f3, .ref f4, .ref f5]) := S.lst (le, [.ref f0, .ref f1] ++ [.ref f2, .ref f3] ++ [.ref f4, .ref f5]) (by simp)
        refine ⟨_, rfl, le, rfl, ⟨_, SqL.of hle⟩, fun D nD => ?_⟩
        have S17 := S
        refine lc_list (K := K) (a := le) (xs := [.ref f0, .ref f1, .ref f2, .ref f3, .ref f4, .ref f5]) (fun j Hj => Same H17 Hj ∧ ∃ us : List Addr, us.length = j ∧ Hj D = some (.lst (us.map V.ref)) ∧ tolds Hj odd us) ⟨same_upd nD, [], rfl, upd_same, fun u m => by cases m⟩ (fun j Hj _ ⟨sj, _⟩ => SqL.of (sj _ _ hle)) ?_ ?_
        · rintro j y Hj hj ⟨sm, us, lus, hD, hus⟩
          have S := S17.same sm
          refine ⟨rfl, ?_⟩
          have jl : j < 6 := (List.getElem?_eq_some_iff.mp hj).1
          have ask : ∀ (j : Nat) (Hj : Hp), St66 Hj PT p q t ts [(f0, c0, o0), (f1, c1, o1), (f2, c2, o2), (f3, c3, o3), (f4, c4, o4), (f5, c5, o5)] [d1, d3, d5] [(lt, (List.replicate zt.toNat [V.non]).flatten), (la, [.ref f0, .ref f1]), (lb, [.ref f2, .ref f3]), (lc, [.ref f0, .ref f1] ++ [.ref f2, .ref f3]), (ld, [.ref f4, .ref f5]), (le, [.ref f0, .ref f1] ++ [.ref f2, .ref f3] ++ [.ref f4, .ref f5])] → Same H17 Hj → ∀ us : List Addr, us.length = j → j < 6 → Hj D = some (.lst (us.map V.ref)) → tolds Hj odd us →
              HouseX CH odd Hj (Ewhy K CH CT CM CU CO CL CS { nx := fun _ H' => (fun y H4 => ∃ acc, H4 D = some (.lst acc) ∧ acc.length < sizeLine ∧ Same H17 (upd H4 D (.lst (acc ++ [y]))) ∧ ∃ us : List Addr, us.length = j + 1 ∧ (upd H4 D (.lst (acc ++ [y]))) D = some (.lst (us.map V.ref)) ∧ tolds (upd H4 D (.lst (acc ++ [y]))) odd us) .non H', rt := fun y H4 => ∃ acc, H4 D = some (.lst acc) ∧ acc.length < sizeLine ∧ Same H17 (upd H4 D (.lst (acc ++ [y]))) ∧ ∃ us : List Addr, us.length = j + 1 ∧ (upd H4 D (.lst (acc ++ [y]))) D = some (.lst (us.map V.ref)) ∧ tolds (upd H4 D (.lst (acc ++ [y]))) odd us }) := by
            intro j Hj S sm us lus jl hD hus d H' nd s' hd σ'
            refine ⟨true, eHH, fun _ ea na => ?_, fun z => by cases z⟩
            intro hσ
            have hslot : (slotN (some 1) (some (V.ref ea)) σ')[1]? = some (some (V.ref ea)) := slot_at hσ
            refine ⟨CH, xH, flH, .ref ea, hslot, rfl, rfl, d, _, _, rfl, hd, rfl, (by show 2 ≤ sizeLine; decide), fun tp ntp => ?_⟩
            have s2 := same_upd (o := .tup [.str "nohouse", .int odd]) ntp
            have hD2 := s2 _ _ (s' _ _ hD)
            have nDt : tp ≠ D := Ne.symm (ne_of_none (s' _ _ hD) ntp)
            refine ⟨_, hD2, by rw [List.length_map]; exact small1000 (by omega), fun b o e => ?_, us ++ [tp], by rw [List.length_append, lus]; rfl, by rw [upd_same, List.map_append]; rfl, fun u m => ?_⟩
            · rw [upd_ne (ne_of_none e nD)]
              exact s2 _ _ (s' _ _ (sm _ _ e))
            · rcases List.mem_append.mp m with m | m
              · have hu := s2 _ _ (s' _ _ (hus u m))
                rw [upd_ne (fun q => by rw [q, hD2] at hu; cases hu)]
                exact hu
              · rw [List.mem_singleton.mp m, upd_ne nDt]
                exact upd_same
          match j, hj, lus, jl with
          | 0, hj, lus, jl =>
            cases hj
            have K0 := S.kept (f0, c0, o0) (by simp)
            refine ⟨f0, c0, _, rfl, K0.2.1, LamV.act_of (t := fun E => tCall (spB3 CH) [] E (tCons (tVar 3) (tCons (tVar 4) (tCons (tVar 5) tNil)))) hO0 (LamV.lamN_by (N := ["_law_script", "_law_box_here", "_law_turn", "_law_many", "_law_ties", "_law_odd", "_law_good", "_law_told", "_law_asks", "_law_ask"]) (sc := defScope sLaw) (by decide +kernel)) rfl (fun A outer s H E f c' hr2 => pe_call GBfar hr2 (by rfl) gBfar kBfar bBfar .nil (passes_call (takes_of rfl rfl rfl rfl) (fun _ _ _ _ h => h)) (pa_cons (pv 3) (pa_cons (pv 4) (pa_cons (pv 5) pa_nil)))) rfl (Or.inl rfl), ?_⟩
            refine ⟨K0.1, (LamV.bind0 (fun _ _ _ => by rfl)), _, rfl, _, rfl, _, rfl, n, .ref t, odd, rfl, hlog, hbad, ?_⟩
            exact ask 0 Hj S sm us lus jl hD hus
          | 1, hj, lus, jl =>
            cases hj
            have K1 := S.kept (f1, c1, o1) (by simp)
            refine ⟨f1, c1, _, rfl, K1.2.1, LamV.act_of (t := fun E => tCall (spB3 CH) [] E (tCons (tVar 3) (tCons (tVar 4) (tCons (tVar 5) tNil)))) hO1 (LamV.lamN_by (N := ["_law_script", "_law_box_here", "_law_turn", "_law_many", "_law_ties", "_law_odd", "_law_good", "_law_told", "_law_asks", "_law_ask"]) (sc := defScope sLaw) (by decide +kernel)) rfl (fun A outer s H E f c' hr2 => pe_call GBnexts hr2 (by rfl) gBnexts kBnexts bBnexts .nil (passes_call (takes_of rfl rfl rfl rfl) (fun _ _ _ _ h => h)) (pa_cons (pv 3) (pa_cons (pv 4) (pa_cons (pv 5) pa_nil)))) rfl (Or.inl rfl), ?_⟩
            refine ⟨K1.1, (LamV.bind1 (S.dfl d1 (by simp)) (by rfl) (fun _ _ _ _ => ⟨_, rfl, rfl⟩)), _, rfl, _, rfl, _, rfl, n, .ref t, odd, rfl, hlog, hbad, ?_⟩
            exact ask 1 Hj S sm us lus jl hD hus
          | 2, hj, lus, jl =>
            cases hj
            have K2 := S.kept (f2, c2, o2) (by simp)
            refine ⟨f2, c2, _, rfl, K2.2.1, LamV.act_of (t := fun E => tCall (spB4h CH) [] E (tCons (tVar 3) (tCons (tVar 4) (tCons (tVar 5) (tCons (tVar 7) tNil))))) hO2 (LamV.lamN_by (N := ["_law_script", "_law_box_here", "_law_turn", "_law_many", "_law_ties", "_law_odd", "_law_good", "_law_told", "_law_asks", "_law_ask"]) (sc := defScope sLaw) (by decide +kernel)) rfl (fun A outer s H E f c' hr2 => pe_call GBfar_holds hr2 (by rfl) gBfar_holds kBfar_holds bBfar_holds .nil (passes_call (takes_of rfl rfl rfl rfl) (fun _ _ _ _ h => h)) (pa_cons (pv 3) (pa_cons (pv 4) (pa_cons (pv 5) (pa_cons (pv 7) pa_nil))))) rfl (Or.inl rfl), ?_⟩
            refine ⟨K2.1, (LamV.bind0 (fun _ _ _ => by rfl)), _, rfl, _, rfl, _, rfl, _, rfl, n, .ref t, .ref lt, odd, rfl, hlog, hbad, ?_⟩
            exact ask 2 Hj S sm us lus jl hD hus
          | 3, hj, lus, jl =>
            cases hj
            have K3 := S.kept (f3, c3, o3) (by simp)
            refine ⟨f3, c3, _, rfl, K3.2.1, LamV.act_of (t := fun E => tCall (spB4 CH) [] E (tCons (tVar 3) (tCons (tVar 4) (tCons (tVar 6) (tCons (tVar 5) tNil))))) hO3 (LamV.lamN_by (N := ["_law_script", "_law_box_here", "_law_turn", "_law_many", "_law_ties", "_law_odd", "_law_good", "_law_told", "_law_asks", "_law_ask"]) (sc := defScope sLaw) (by decide +kernel)) rfl (fun A outer s H E f c' hr2 => pe_call GBleast_way hr2 (by rfl) gBleast_way kBleast_way bBleast_way .nil (passes_call (takes_of rfl rfl rfl rfl) (fun _ _ _ _ h => h)) (pa_cons (pv 3) (pa_cons (pv 4) (pa_cons (pv 6) (pa_cons (pv 5) pa_nil))))) rfl (Or.inl rfl), ?_⟩
            refine ⟨K3.1, (LamV.bind1 (S.dfl d3 (by simp)) (by rfl) (fun _ _ _ _ => ⟨_, rfl, rfl⟩)), _, rfl, _, rfl, _, rfl, _, rfl, n, .ref t, ((g : Nat) : Int), odd, rfl, hglog, hlog, .inr ⟨⟨by omega, by omega⟩, hbad, ?_⟩⟩
            exact ask 3 Hj S sm us lus jl hD hus
          | 4, hj, lus, jl =>
            cases hj
            have K4 := S.kept (f4, c4, o4) (by simp)
            refine ⟨f4, c4, _, rfl, K4.2.1, LamV.act_of (t := fun E => tCall (spB4 CH) [] E (tCons (tVar 3) (tCons (tVar 4) (tCons (tVar 5) (tCons (tUn _ _) tNil))))) hO4 (LamV.lamN_by (N := ["_law_script", "_law_box_here", "_law_turn", "_law_many", "_law_ties", "_law_odd", "_law_good", "_law_told", "_law_asks", "_law_ask"]) (sc := defScope sLaw) (by decide +kernel)) rfl (fun A outer s H E f c' hr2 => pe_call GBleast_way hr2 (by rfl) gBleast_way kBleast_way bBleast_way .nil (passes_call (takes_of rfl rfl rfl rfl) (fun _ _ _ _ h => h)) (pa_cons (pv 3) (pa_cons (pv 4) (pa_cons (pv 5) (pa_cons (pe_un un_neg pe_int) pa_nil))))) rfl (Or.inl rfl), ?_⟩
            refine ⟨K4.1, (LamV.bind0 (fun _ _ _ => by rfl)), _, rfl, _, rfl, _, rfl, 7, rfl, n, .ref t, odd, -7, rfl, hlog, (by decide +kernel), .inl ⟨hbad, ?_⟩⟩
            exact ask 4 Hj S sm us lus jl hD hus
          | 5, hj, lus, jl =>
            cases hj
            have K5 := S.kept (f5, c5, o5) (by simp)
            refine ⟨f5, c5, _, rfl, K5.2.1, LamV.act_of (t := fun E => tCall (spB4 CH) [] E (tCons (tVar 3) (tCons (tVar 4) (tCons (tVar 5) (tCons (tVar 5) tNil))))) hO5 (LamV.lamN_by (N := ["_law_script", "_law_box_here", "_law_turn", "_law_many", "_law_ties", "_law_odd", "_law_good", "_law_told", "_law_asks", "_law_ask"]) (sc := defScope sLaw) (by decide +kernel)) rfl (fun A outer s H E f c' hr2 => pe_call GBround_way hr2 (by rfl) gBround_way kBround_way bBround_way .nil (passes_call (takes_of rfl rfl rfl rfl) (fun _ _ _ _ h => h)) (pa_cons (pv 3) (pa_cons (pv 4) (pa_cons (pv 5) (pa_cons (pv 5) pa_nil))))) rfl (Or.inl rfl), ?_⟩
            refine ⟨K5.1, (LamV.bind1 (S.dfl d5 (by simp)) (by rfl) (fun _ _ _ _ => ⟨_, rfl, rfl⟩)), _, rfl, _, rfl, _, rfl, _, rfl, n, .ref t, odd, odd, rfl, hlog, hlog, .inl ⟨hbad, ?_⟩⟩
            exact ask 5 Hj S sm us lus jl hD hus
          | j + 6, hj, lus, jl => exact absurd jl (by omega)
        · rintro H18 ⟨sm, us, lus, hD, hus⟩
          have S := S17.same sm
          refine ⟨_, rfl, (by show 2 ≤ sizeLine; decide), fun tp ntp => ⟨(by show 1 ≤ sizeLine; decide), fun l1 nl1 => ?_⟩⟩
          have sA := same_upd (o := .tup [.str "nohouse", .int odd]) ntp
          have htp := upd_same (H := H18) (a := tp) (o := .tup [.str "nohouse", .int odd])
          generalize upd H18 tp (.tup [.str "nohouse", .int odd]) = H19 at *
          have sB := same_upd (o := .lst [.ref tp]) nl1
          have hl1 := upd_same (H := H19) (a := l1) (o := .lst [.ref tp])
          generalize upd H19 l1 (.lst [.ref tp]) = H20 at *
          refine ⟨l1, 6, _, rfl, rfl, hl1, by decide, by decide, (by show 1 * 6 ≤ sizeLine; decide), fun l6 nl6 => ?_⟩
          have sC := same_upd (o := .lst (List.replicate (6 : Int).toNat [V.ref tp]).flatten) nl6
          have hl6 := upd_same (H := H20) (a := l6) (o := .lst (List.replicate (6 : Int).toNat [V.ref tp]).flatten)
          generalize upd H20 l6 (.lst (List.replicate (6 : Int).toNat [V.ref tp]).flatten) = H21 at *
          have up : ∀ {y o}, H18 y = some o → H21 y = some o := fun z => sC _ _ (sB _ _ (sA _ _ z))
          have hlr : H21 l6 = some (.lst (List.replicate us.length (.ref tp))) := by rw [lus]; exact hl6
          refine ⟨_, _, rfl, eqv_tolds (us := us) (odd := odd) (up hD) (fun u m => up (hus u m)) hlr (sC _ _ (sB _ _ htp)) (by rw [lus]; show 6 ≤ 1000; decide), fun H22 s22 => ⟨_, rfl, iteF ?_⟩⟩
          have SX : St66 H22 PT p q t ts _ _ _ := S.same (fun b o e => s22 _ _ (up e))
          refine ⟨_, rfl, _, rfl, _, rfl, n, g, t, ts, rfl, hg, by omega, SX.ties, hF, fun e Ha ne sa he => ?_⟩
          refine ⟨_, rfl, _, rfl, _, rfl, n, g, t, ts, rfl, hg, by omega, SX.ties.same sa, by omega, hF, fun d Hb nd sb hd => ?_⟩
          rw [far_lfar hF hg] at hd
          refine ⟨_, _, rfl, eqv_dist (sb _ _ he) hd hdl, fun Hc sc => ⟨_, rfl, iteF ?_⟩⟩
          have SY := ((SX.same sa).same sb).same sc
          exact ⟨⟨_, _, _, _, _, _, _, _, rfl⟩, SY.box, SY.tabs⟩
      · have hbad : ¬ (0 ≤ odd ∧ odd < (n : Int)) := by omega
        refine ifT (decide_eq_true c.1) ⟨_, rfl, _, _, rfl, rfl, _, rfl, ?_⟩
        refine ifT (by rw [decide_eq_false (show ¬ odd < (n : Int) by omega)]; rfl) ?_
        refine ⟨(by show 1 ≤ sizeLine; decide), fun l2 nl2 => ?_⟩
        have S := S.list (xs := [.non]) nl2
        have nl2p : l2 ≠ p := Ne.symm (ne_of_none ep9 nl2)
        have hl2 := S.lst (l2, [.non]) (by simp)
        generalize upd H9 l2 (.lst [.non]) = H10 at *
        refine ⟨_, rfl, p, q, 10, rfl, S.box, by omega, by omega, fun zt H11 ht0 ht1 B11 b11 => ?_⟩
        have S : St66 H11 PT p q t ts [] [] [] := ⟨B11, tabs_but S.tabs S.box b11, ties_but S.ties S.box ntp b11, (fun k m => by cases m), (fun k m => by cases m), (fun k m => by cases m)⟩
        refine ⟨l2, zt, _, rfl, rfl, b11 _ _ hl2 nl2p, by omega, by omega, ?_, fun lt nlt => ?_⟩
        · show 1 * zt.toNat ≤ sizeLine
          have : (10 : Nat) ≤ sizeLine := by decide
          omega
        have S := S.list (xs := (List.replicate zt.toNat [V.non]).flatten) nlt
        generalize upd H11 lt (.lst (List.replicate zt.toNat [V.non]).flatten) = H12 at *
        refine ⟨S.tabs, fun f0 c0 Hl0 el0 Tl0 nf0 hc0 => ?_⟩
        generalize hO0 : LamV.LamO f0 qL _ _ _ _ c0 Value.none = o0
        have S := S.lam (o := o0) el0 Tl0 nf0 hc0 (by rw [← hO0]; exact LamV.lamO_ne)
        generalize upd Hl0 f0 o0 = Hm0 at *
        refine ⟨S.tabs, fun d1 f1 c1 Hk1 Hl1 nd1 eHk1 el1 Tl1 nf1 hc1 => ?_⟩
        generalize hO1 : LamV.LamO f1 qL _ _ _ _ c1 (Value.ref d1) = o1
        have S := S.tup nd1
        rw [← eHk1] at S
        have S := S.lam (o := o1) el1 Tl1 nf1 hc1 (by rw [← hO1]; exact LamV.lamO_ne)
        generalize upd Hl1 f1 o1 = Hm1 at *
        refine ⟨(by show 2 ≤ sizeLine; decide), fun la nla => ?_⟩
        have S := S.list (xs := [.ref f0, .ref f1]) nla
        have hla := S.lst (la, [.ref f0, .ref f1]) (by simp)
        generalize upd Hm1 la (.lst [.ref f0, .ref f1]) = H13 at *
        refine ⟨_, rfl, ?_⟩
        refine ⟨S.tabs, fun f2 c2 Hl2 el2 Tl2 nf2 hc2 => ?_⟩
        generalize hO2 : LamV.LamO f2 qL _ _ _ _ c2 Value.none = o2
        have S := S.lam (o := o2) el2 Tl2 nf2 hc2 (by rw [← hO2]; exact LamV.lamO_ne)
        generalize upd Hl2 f2 o2 = Hm2 at *
        refine ⟨S.tabs, fun d3 f3 c3 Hk3 Hl3 nd3 eHk3 el3 Tl3 nf3 hc3 => ?_⟩
        generalize hO3 : LamV.LamO f3 qL _ _ _ _ c3 (Value.ref d3) = o3
        have S := S.tup nd3
        rw [← eHk3] at S
        have S := S.lam (o := o3) el3 Tl3 nf3 hc3 (by rw [← hO3]; exact LamV.lamO_ne)
        generalize upd Hl3 f3 o3 = Hm3 at *
        refine ⟨(by show 2 ≤ sizeLine; decide), fun lb nlb => ?_⟩
        have S := S.list (xs := [.ref f2, .ref f3]) nlb
        generalize upd Hm3 lb (.lst [.ref f2, .ref f3]) = H14 at *
        refine ⟨la, lb, _, _, rfl, rfl, S.lst (la, [.ref f0, .ref f1]) (by simp), S.lst (lb, [.ref f2, .ref f3]) (by simp), (by show 4 ≤ sizeLine; decide), fun lc nlc => ?_⟩
        have S := S.list (xs := [.ref f0, .ref f1] ++ [.ref f2, .ref f3]) nlc
        generalize upd H14 lc (.lst ([.ref f0, .ref f1] ++ [.ref f2, .ref f3])) = H15 at *
        refine ⟨_, rfl, ?_⟩
        refine ⟨S.tabs, fun f4 c4 Hl4 el4 Tl4 nf4 hc4 => ?_⟩
        generalize hO4 : LamV.LamO f4 qL _ _ _ _ c4 Value.none = o4
        have S := S.lam (o := o4) el4 Tl4 nf4 hc4 (by rw [← hO4]; exact LamV.lamO_ne)
        generalize upd Hl4 f4 o4 = Hm4 at *
        refine ⟨S.tabs, fun d5 f5 c5 Hk5 Hl5 nd5 eHk5 el5 Tl5 nf5 hc5 => ?_⟩
        generalize hO5 : LamV.LamO f5 qL _ _ _ _ c5 (Value.ref d5) = o5
        have S := S.tup nd5
        rw [← eHk5] at S
        have S := S.lam (o := o5) el5 Tl5 nf5 hc5 (by rw [← hO5]; exact LamV.lamO_ne)
        generalize upd Hl5 f5 o5 = Hm5 at *
        refine ⟨(by show 2 ≤ sizeLine; decide), fun ld nld => ?_⟩
        have S := S.list (xs := [.ref f4, .ref f5]) nld
        generalize upd Hm5 ld (.lst [.ref f4, .ref f5]) = H16 at *
        refine ⟨lc, ld, _, _, rfl, rfl, S.lst (lc, [.ref f0, .ref f1] ++ [.ref f2, .ref f3]) (by simp), S.lst (ld, [.ref f4, .ref f5]) (by simp), (by show 6 ≤ sizeLine; decide), fun le nle => ?_⟩
        have S := S.list (xs := [.ref f0, .ref f1] ++ [.ref f2, .ref f3] ++ [.ref f4, .ref f5]) nle
        generalize upd H16 le (.lst ([.ref f0, .ref f1] ++ [.ref f2, .ref f3] ++ [.ref f4, .ref f5])) = H17 at *
        have hle : H17 le = some (.lst [.ref f0, .ref f1, .ref f2, .ref f3, .ref f4, .ref f5]) := S.lst (le, [.ref f0, .ref f1] ++ [.ref f2, .ref f3] ++ [.ref f4, .ref f5]) (by simp)
        refine ⟨_, rfl, le, rfl, ⟨_, SqL.of hle⟩, fun D nD => ?_⟩
        have S17 := S
        refine lc_list (K := K) (a := le) (xs := [.ref f0, .ref f1, .ref f2, .ref f3, .ref f4, .ref f5]) (fun j Hj => Same H17 Hj ∧ ∃ us : List Addr, us.length = j ∧ Hj D = some (.lst (us.map V.ref)) ∧ tolds Hj odd us) ⟨same_upd nD, [], rfl, upd_same, fun u m => by cases m⟩ (fun j Hj _ ⟨sj, _⟩ => SqL.of (sj _ _ hle)) ?_ ?_
        · rintro j y Hj hj ⟨sm, us, lus, hD, hus⟩
          have S := S17.same sm
          refine ⟨rfl, ?_⟩
          have jl : j < 6 := (List.getElem?_eq_some_iff.mp hj).1
          have ask : ∀ (j : Nat) (Hj : Hp), St66 Hj PT p q t ts [(f0, c0, o0), (f1, c1, o1), (f2, c2, o2), (f3, c3, o3), (f4, c4, o4), (f5, c5, o5)] [d1, d3, d5] [(lt, (List.replicate zt.toNat [V.non]).flatten), (la, [.ref f0, .ref f1]), (lb, [.ref f2, .ref f3]), (lc, [.ref f0, .ref f1] ++ [.ref f2, .ref f3]), (ld, [.ref f4, .ref f5]), (le, [.ref f0, .ref f1] ++ [.ref f2, .ref f3] ++ [.ref f4, .ref f5])] → Same H17 Hj → ∀ us : List Addr, us.length = j → j < 6 → Hj D = some (.lst (us.map V.ref)) → tolds Hj odd us →
              HouseX CH odd Hj (Ewhy K CH CT CM CU CO CL CS { nx := fun _ H' => (fun y H4 => ∃ acc, H4 D = some (.lst acc) ∧ acc.length < sizeLine ∧ Same H17 (upd H4 D (.lst (acc ++ [y]))) ∧ ∃ us : List Addr, us.length = j + 1 ∧ (upd H4 D (.lst (acc ++ [y]))) D = some (.lst (us.map V.ref)) ∧ tolds (upd H4 D (.lst (acc ++ [y]))) odd us) .non H', rt := fun y H4 => ∃ acc, H4 D = some (.lst acc) ∧ acc.length < sizeLine ∧ Same H17 (upd H4 D (.lst (acc ++ [y]))) ∧ ∃ us : List Addr, us.length = j + 1 ∧ (upd H4 D (.lst (acc ++ [y]))) D = some (.lst (us.map V.ref)) ∧ tolds (upd H4 D (.lst (acc ++ [y]))) odd us }) := by
            intro j Hj S sm us lus jl hD hus d H' nd s' hd σ'
            refine ⟨true, eHH, fun _ ea na => ?_, fun z => by cases z⟩
            intro hσ
            have hslot : (slotN (some 1) (some (V.ref ea)) σ')[1]? = some (some (V.ref ea)) := slot_at hσ
            refine ⟨CH, xH, flH, .ref ea, hslot, rfl, rfl, d, _, _, rfl, hd, rfl, (by show 2 ≤ sizeLine; decide), fun tp ntp => ?_⟩
            have s2 := same_upd (o := .tup [.str "nohouse", .int odd]) ntp
            have hD2 := s2 _ _ (s' _ _ hD)
            have nDt : tp ≠ D := Ne.symm (ne_of_none (s' _ _ hD) ntp)
            refine ⟨_, hD2, by rw [List.length_map]; exact small1000 (by omega), fun b o e => ?_, us ++ [tp], by rw [List.length_append, lus]; rfl, by rw [upd_same, List.map_append]; rfl, fun u m => ?_⟩
            · rw [upd_ne (ne_of_none e nD)]
              exact s2 _ _ (s' _ _ (sm _ _ e))
            · rcases List.mem_append.mp m with m | m
              · have hu := s2 _ _ (s' _ _ (hus u m))
                rw [upd_ne (fun q => by rw [q, hD2] at hu; cases hu)]
                exact hu
              · rw [List.mem_singleton.mp m, upd_ne nDt]
                exact upd_same
          match j, hj, lus, jl with
          | 0, hj, lus, jl =>
            cases hj
            have K0 := S.kept (f0, c0, o0) (by simp)
            refine ⟨f0, c0, _, rfl, K0.2.1, LamV.act_of (t := fun E => tCall (spB3 CH) [] E (tCons (tVar 3) (tCons (tVar 4) (tCons (tVar 5) tNil)))) hO0 (LamV.lamN_by (N := ["_law_script", "_law_box_here", "_law_turn", "_law_many", "_law_ties", "_law_odd", "_law_good", "_law_told", "_law_asks", "_law_ask"]) (sc := defScope sLaw) (by decide +kernel)) rfl (fun A outer s H E f c' hr2 => pe_call GBfar hr2 (by rfl) gBfar kBfar bBfar .nil (passes_call (takes_of rfl rfl rfl rfl) (fun _ _ _ _ h => h)) (pa_cons (pv 3) (pa_cons (pv 4) (pa_cons (pv 5) pa_nil)))) rfl (Or.inl rfl), ?_⟩
            refine ⟨K0.1, (LamV.bind0 (fun _ _ _ => by rfl)), _, rfl, _, rfl, _, rfl, n, .ref t, odd, rfl, hlog, hbad, ?_⟩
            exact ask 0 Hj S sm us lus jl hD hus
          | 1, hj, lus, jl =>
            cases hj
            have K1 := S.kept (f1, c1, o1) (by simp)
            refine ⟨f1, c1, _, rfl, K1.2.1, LamV.act_of (t := fun E => tCall (spB3 CH) [] E (tCons (tVar 3) (tCons (tVar 4) (tCons (tVar 5) tNil)))) hO1 (LamV.lamN_by (N := ["_law_script", "_law_box_here", "_law_turn", "_law_many", "_law_ties", "_law_odd", "_law_good", "_law_told", "_law_asks", "_law_ask"]) (sc := defScope sLaw) (by decide +kernel)) rfl (fun A outer s H E f c' hr2 => pe_call GBnexts hr2 (by rfl) gBnexts kBnexts bBnexts .nil (passes_call (takes_of rfl rfl rfl rfl) (fun _ _ _ _ h => h)) (pa_cons (pv 3) (pa_cons (pv 4) (pa_cons (pv 5) pa_nil)))) rfl (Or.inl rfl), ?_⟩
            refine ⟨K1.1, (LamV.bind1 (S.dfl d1 (by simp)) (by rfl) (fun _ _ _ _ => ⟨_, rfl, rfl⟩)), _, rfl, _, rfl, _, rfl, n, .ref t, odd, rfl, hlog, hbad, ?_⟩
            exact ask 1 Hj S sm us lus jl hD hus
          | 2, hj, lus, jl =>
            cases hj
            have K2 := S.kept (f2, c2, o2) (by simp)
            refine ⟨f2, c2, _, rfl, K2.2.1, LamV.act_of (t := fun E => tCall (spB4h CH) [] E (tCons (tVar 3) (tCons (tVar 4) (tCons (tVar 5) (tCons (tVar 7) tNil))))) hO2 (LamV.lamN_by (N := ["_law_script", "_law_box_here", "_law_turn", "_law_many", "_law_ties", "_law_odd", "_law_good", "_law_told", "_law_asks", "_law_ask"]) (sc := defScope sLaw) (by decide +kernel)) rfl (fun A outer s H E f c' hr2 => pe_call GBfar_holds hr2 (by rfl) gBfar_holds kBfar_holds bBfar_holds .nil (passes_call (takes_of rfl rfl rfl rfl) (fun _ _ _ _ h => h)) (pa_cons (pv 3) (pa_cons (pv 4) (pa_cons (pv 5) (pa_cons (pv 7) pa_nil))))) rfl (Or.inl rfl), ?_⟩
            refine ⟨K2.1, (LamV.bind0 (fun _ _ _ => by rfl)), _, rfl, _, rfl, _, rfl, _, rfl, n, .ref t, .ref lt, odd, rfl, hlog, hbad, ?_⟩
            exact ask 2 Hj S sm us lus jl hD hus
          | 3, hj, lus, jl =>
            cases hj
            have K3 := S.kept (f3, c3, o3) (by simp)
            refine ⟨f3, c3, _, rfl, K3.2.1, LamV.act_of (t := fun E => tCall (spB4 CH) [] E (tCons (tVar 3) (tCons (tVar 4) (tCons (tVar 6) (tCons (tVar 5) tNil))))) hO3 (LamV.lamN_by (N := ["_law_script", "_law_box_here", "_law_turn", "_law_many", "_law_ties", "_law_odd", "_law_good", "_law_told", "_law_asks", "_law_ask"]) (sc := defScope sLaw) (by decide +kernel)) rfl (fun A outer s H E f c' hr2 => pe_call GBleast_way hr2 (by rfl) gBleast_way kBleast_way bBleast_way .nil (passes_call (takes_of rfl rfl rfl rfl) (fun _ _ _ _ h => h)) (pa_cons (pv 3) (pa_cons (pv 4) (pa_cons (pv 6) (pa_cons (pv 5) pa_nil))))) rfl (Or.inl rfl), ?_⟩
            refine ⟨K3.1, (LamV.bind1 (S.dfl d3 (by simp)) (by rfl) (fun _ _ _ _ => ⟨_, rfl, rfl⟩)), _, rfl, _, rfl, _, rfl, _, rfl, n, .ref t, ((g : Nat) : Int), odd, rfl, hglog, hlog, .inr ⟨⟨by omega, by omega⟩, hbad, ?_⟩⟩
            exact ask 3 Hj S sm us lus jl hD hus
          | 4, hj, lus, jl =>
            cases hj
            have K4 := S.kept (f4, c4, o4) (by simp)
            refine ⟨f4, c4, _, rfl, K4.2.1, LamV.act_of (t := fun E => tCall (spB4 CH) [] E (tCons (tVar 3) (tCons (tVar 4) (tCons (tVar 5) (tCons (tUn _ _) tNil))))) hO4 (LamV.lamN_by (N := ["_law_script", "_law_box_here", "_law_turn", "_law_many", "_law_ties", "_law_odd", "_law_good", "_law_told", "_law_asks", "_law_ask"]) (sc := defScope sLaw) (by decide +kernel)) rfl (fun A outer s H E f c' hr2 => pe_call GBleast_way hr2 (by rfl) gBleast_way kBleast_way bBleast_way .nil (passes_call (takes_of rfl rfl rfl rfl) (fun _ _ _ _ h => h)) (pa_cons (pv 3) (pa_cons (pv 4) (pa_cons (pv 5) (pa_cons (pe_un un_neg pe_int) pa_nil))))) rfl (Or.inl rfl), ?_⟩
            refine ⟨K4.1, (LamV.bind0 (fun _ _ _ => by rfl)), _, rfl, _, rfl, _, rfl, 7, rfl, n, .ref t, odd, -7, rfl, hlog, (by decide +kernel), .inl ⟨hbad, ?_⟩⟩
            exact ask 4 Hj S sm us lus jl hD hus
          | 5, hj, lus, jl =>
            cases hj
            have K5 := S.kept (f5, c5, o5) (by simp)
            refine ⟨f5, c5, _, rfl, K5.2.1, LamV.act_of (t := fun E => tCall (spB4 CH) [] E (tCons (tVar 3) (tCons (tVar 4) (tCons (tVar 5) (tCons (tVar 5) tNil))))) hO5 (LamV.lamN_by (N := ["_law_script", "_law_box_here", "_law_turn", "_law_many", "_law_ties", "_law_odd", "_law_good", "_law_told", "_law_asks", "_law_ask"]) (sc := defScope sLaw) (by decide +kernel)) rfl (fun A outer s H E f c' hr2 => pe_call GBround_way hr2 (by rfl) gBround_way kBround_way bBround_way .nil (passes_call (takes_of rfl rfl rfl rfl) (fun _ _ _ _ h => h)) (pa_cons (pv 3) (pa_cons (pv 4) (pa_cons (pv 5) (pa_cons (pv 5) pa_nil))))) rfl (Or.inl rfl), ?_⟩
            refine ⟨K5.1, (LamV.bind1 (S.dfl d5 (by simp)) (by rfl) (fun _ _ _ _ => ⟨_, rfl, rfl⟩)), _, rfl, _, rfl, _, rfl, _, rfl, n, .ref t, odd, odd, rfl, hlog, hlog, .inl ⟨hbad, ?_⟩⟩
            exact ask 5 Hj S sm us lus jl hD hus
          | j + 6, hj, lus, jl => exact absurd jl (by omega)
        · rintro H18 ⟨sm, us, lus, hD, hus⟩
          have S := S17.same sm
          refine ⟨_, rfl, (by show 2 ≤ sizeLine; decide), fun tp ntp => ⟨(by show 1 ≤ sizeLine; decide), fun l1 nl1 => ?_⟩⟩
          have sA := same_upd (o := .tup [.str "nohouse", .int odd]) ntp
          have htp := upd_same (H := H18) (a := tp) (o := .tup [.str "nohouse", .int odd])
          generalize upd H18 tp (.tup [.str "nohouse", .int odd]) = H19 at *
          have sB := same_upd (o := .lst [.ref tp]) nl1
          have hl1 := upd_same (H := H19) (a := l1) (o := .lst [.ref tp])
          generalize upd H19 l1 (.lst [.ref tp]) = H20 at *
          refine ⟨l1, 6, _, rfl, rfl, hl1, by decide, by decide, (by show 1 * 6 ≤ sizeLine; decide), fun l6 nl6 => ?_⟩
          have sC := same_upd (o := .lst (List.replicate (6 : Int).toNat [V.ref tp]).flatten) nl6
          have hl6 := upd_same (H := H20) (a := l6) (o := .lst (List.replicate (6 : Int).toNat [V.ref tp]).flatten)
          generalize upd H20 l6 (.lst (List.replicate (6 : Int).toNat [V.ref tp]).flatten) = H21 at *
          have up : ∀ {y o}, H18 y = some o → H21 y = some o := fun z => sC _ _ (sB _ _ (sA _ _ z))
          have hlr : H21 l6 = some (.lst (List.replicate us.length (.ref tp))) := by rw [lus]; exact hl6
          refine ⟨_, _, rfl, eqv_tolds (us := us) (odd := odd) (up hD) (fun u m => up (hus u m)) hlr (sC _ _ (sB _ _ htp)) (by rw [lus]; show 6 ≤ 1000; decide), fun H22 s22 => ⟨_, rfl, iteF ?_⟩⟩
          have SX : St66 H22 PT p q t ts _ _ _ := S.same (fun b o e => s22 _ _ (up e))
          refine ⟨_, rfl, _, rfl, _, rfl, n, g, t, ts, rfl, hg, by omega, SX.ties, hF, fun e Ha ne sa he => ?_⟩
          refine ⟨_, rfl, _, rfl, _, rfl, n, g, t, ts, rfl, hg, by omega, SX.ties.same sa, by omega, hF, fun d Hb nd sb hd => ?_⟩
          rw [far_lfar hF hg] at hd
          refine ⟨_, _, rfl, eqv_dist (sb _ _ he) hd hdl, fun Hc sc => ⟨_, rfl, iteF ?_⟩⟩
          have SY := ((SX.same sa).same sb).same sc
          exact ⟨⟨_, _, _, _, _, _, _, _, rfl⟩, SY.box, SY.tabs⟩
      · refine ifT (decide_eq_true c.1) ⟨_, rfl, _, _, rfl, rfl, _, rfl, ?_⟩
        refine ifF (by rw [decide_eq_true c.2]; rfl) ?_
        have SX := S
        refine ⟨_, rfl, _, rfl, _, rfl, n, g, t, ts, rfl, hg, by omega, SX.ties, hF, fun e Ha ne sa he => ?_⟩
        refine ⟨_, rfl, _, rfl, _, rfl, n, g, t, ts, rfl, hg, by omega, SX.ties.same sa, by omega, hF, fun d Hb nd sb hd => ?_⟩
        rw [far_lfar hF hg] at hd
        refine ⟨_, _, rfl, eqv_dist (sb _ _ he) hd hdl, fun Hc sc => ⟨_, rfl, iteF ?_⟩⟩
        have SY := ((SX.same sa).same sb).same sc
        exact ⟨⟨_, _, _, _, _, _, _, _, rfl⟩, SY.box, SY.tabs⟩
    · rintro σ H2 ⟨⟨y2, y3, y4, y5, y6, y7, y8, y9, rfl⟩, B2, T2⟩
      exact kk H2
end
end K

namespace K
open PySem PySem.Spec PyProof.Rows L2
def tabOf (K : PySem.W.Frag) (c : Addr) : Option Addr := match K.lookup c with
  | some ⟨_, _, .fields vs, _⟩ => (match (vs[11]? : Option Value) with | some (.ref P) => some P | _ => none)
  | _ => none
theorem all_mk {l : PySem.W.OpenLaw} {w : World} {K : PySem.W.Frag} {h : Heap} {mg : Str → Option Value} {fa f0 f1 f2 f3 f4 f5 f6 f7 f8 f9 f10 f11 f12 f13 f14 f15 CS fS TD CNoHouse fNoHouse NNoHouse   : Addr} (X : K.In h) (G : h.Ns mainGlobals mg) (hfa : mg "law" = some (.ref fa))
    {od0 an0 od1 an1 od2 an2 od3 an3 od4 an4 od5 an5 od6 an6 od7 an7 od8 an8 od9 an9 od10 an10 od11 an11 od12 an12 od13 an13 od14 an14 od15 an15 odS anS odT odNoHouse anNoHouse ddNoHouse  : Option Addr} {sl0 sl1 sl2 sl3 sl4 sl5 sl6 sl7 sl8 sl9 sl10 sl11 sl12 sl13 sl14 sl15 slS slT slNoHouse  : Array (Option Value)} {oc0 kV0 dc0 pm0 cd0 ct0 oc1 kV1 dc1 pm1 cd1 ct1 oc2 kV2 dc2 pm2 cd2 ct2 oc3 kV3 dc3 pm3 cd3 ct3 oc4 kV4 dc4 pm4 cd4 ct4 oc5 kV5 dc5 pm5 cd5 ct5 oc6 kV6 dc6 pm6 cd6 ct6 oc7 kV7 dc7 pm7 cd7 ct7 oc8 kV8 dc8 pm8 cd8 ct8 oc9 kV9 dc9 pm9 cd9 ct9 oc10 kV10 dc10 pm10 cd10 ct10 oc11 kV11 dc11 pm11 cd11 ct11 oc12 kV12 dc12 pm12 cd12 ct12 oc13 kV13 dc13 pm13 cd13 ct13 oc14 kV14 dc14 pm14 cd14 ct14 oc15 kV15 dc15 pm15 ct15 ocS kVS dcS pmS cdS ctS ocT ocNoHouse kVNoHouse dcNoHouse pmNoHouse cdNoHouse ctNoHouse  : Value} {tk1 tk2  : Tok} {nT : Nat} {CNoTie CTooMany CNoTunnel CShort CLone cT PT : Addr}
    {nmNoHouse qnNoHouse : Str} {bsNoHouse bmNoHouse subNoHouse : List Value} {snNoHouse : List Str} {abNoHouse : Bool} {colNoHouse : Option Bool} {p0NoHouse p1NoHouse p2NoHouse p3NoHouse p5NoHouse : Option Value}
    (a0 : PySem.W.nsIn K mainGlobals "_law_box" = some (some (.ref f0)))
    (l0 : K.lookup f0 = some ⟨oc0, od0, .func (PySem.W.fnOf "_law_box" "_law_box" (defArgs sBox) (defBody sBox) (defScope sBox) .none kV0 dc0 pm0 an0 cd0 ct0), sl0⟩)
    (c0 : PySem.W.codeIn K cd0 "_law_box" = true)
    (k0 : PySem.W.keepIn K (.ref f0) = true)
    (a1 : PySem.W.nsIn K mainGlobals "_law_take" = some (some (.ref f1)))
    (l1 : K.lookup f1 = some ⟨oc1, od1, .func (PySem.W.fnOf "_law_take" "_law_take" (defArgs sTake) (defBody sTake) (defScope sTake) .none kV1 dc1 pm1 an1 cd1 ct1), sl1⟩)
    (c1 : PySem.W.codeIn K cd1 "_law_take" = true)
    (k1 : PySem.W.keepIn K (.ref f1) = true)
    (a2 : PySem.W.nsIn K mainGlobals "_law_same" = some (some (.ref f2)))
    (l2 : K.lookup f2 = some ⟨oc2, od2, .func (PySem.W.fnOf "_law_same" "_law_same" (defArgs sSame) (defBody sSame) (defScope sSame) .none kV2 dc2 pm2 an2 cd2 ct2), sl2⟩)
    (c2 : PySem.W.codeIn K cd2 "_law_same" = true)
    (k2 : PySem.W.keepIn K (.ref f2) = true)
    (a3 : PySem.W.nsIn K mainGlobals "_law_wild" = some (some (.ref f3)))
    (l3 : K.lookup f3 = some ⟨oc3, od3, .func (PySem.W.fnOf "_law_wild" "_law_wild" (defArgs sWild) (defBody sWild) (defScope sWild) .none kV3 dc3 pm3 an3 cd3 ct3), sl3⟩)
    (c3 : PySem.W.codeIn K cd3 "_law_wild" = true)
    (k3 : PySem.W.keepIn K (.ref f3) = true)
    (a4 : PySem.W.nsIn K mainGlobals "_law_why" = some (some (.ref f4)))
    (l4 : K.lookup f4 = some ⟨oc4, od4, .func (PySem.W.fnOf "_law_why" "_law_why" (defArgs sWhy) (defBody sWhy) (defScope sWhy) .none kV4 dc4 pm4 an4 cd4 ct4), sl4⟩)
    (c4 : PySem.W.codeIn K cd4 "_law_why" = true)
    (k4 : PySem.W.keepIn K (.ref f4) = true)
    (a5 : PySem.W.nsIn K mainGlobals "_law_pairs" = some (some (.ref f5)))
    (l5 : K.lookup f5 = some ⟨oc5, od5, .func (PySem.W.fnOf "_law_pairs" "_law_pairs" (defArgs sPairs) (defBody sPairs) (defScope sPairs) .none kV5 dc5 pm5 an5 cd5 ct5), sl5⟩)
    (c5 : PySem.W.codeIn K cd5 "_law_pairs" = true)
    (k5 : PySem.W.keepIn K (.ref f5) = true)
    (a6 : PySem.W.nsIn K mainGlobals "_law_some_ties" = some (some (.ref f6)))
    (l6 : K.lookup f6 = some ⟨oc6, od6, .func (PySem.W.fnOf "_law_some_ties" "_law_some_ties" (defArgs sSome) (defBody sSome) (defScope sSome) .none kV6 dc6 pm6 an6 cd6 ct6), sl6⟩)
    (c6 : PySem.W.codeIn K cd6 "_law_some_ties" = true)
    (k6 : PySem.W.keepIn K (.ref f6) = true)
    (a7 : PySem.W.nsIn K mainGlobals "_law_far" = some (some (.ref f7)))
    (l7 : K.lookup f7 = some ⟨oc7, od7, .func (PySem.W.fnOf "_law_far" "_law_far" (defArgs sLFar) (defBody sLFar) (defScope sLFar) .none kV7 dc7 pm7 an7 cd7 ct7), sl7⟩)
    (c7 : PySem.W.codeIn K cd7 "_law_far" = true)
    (k7 : PySem.W.keepIn K (.ref f7) = true)
    (a8 : PySem.W.nsIn K mainGlobals "check_house" = some (some (.ref f8)))
    (l8 : K.lookup f8 = some ⟨oc8, od8, .func (PySem.W.fnOf "check_house" "check_house" (defArgs sCheck) (defBody sCheck) (defScope sCheck) .none kV8 dc8 pm8 an8 cd8 ct8), sl8⟩)
    (c8 : PySem.W.codeIn K cd8 "check_house" = true)
    (k8 : PySem.W.keepIn K (.ref f8) = true)
    (a9 : PySem.W.nsIn K mainGlobals "cheapen" = some (some (.ref f9)))
    (l9 : K.lookup f9 = some ⟨oc9, od9, .func (PySem.W.fnOf "cheapen" "cheapen" (defArgs sCheap) (defBody sCheap) (defScope sCheap) .none kV9 dc9 pm9 an9 cd9 ct9), sl9⟩)
    (c9 : PySem.W.codeIn K cd9 "cheapen" = true)
    (k9 : PySem.W.keepIn K (.ref f9) = true)
    (a10 : PySem.W.nsIn K mainGlobals "far" = some (some (.ref f10)))
    (l10 : K.lookup f10 = some ⟨oc10, od10, .func (PySem.W.fnOf "far" "far" (defArgs sFar) (defBody sFar) (defScope sFar) .none kV10 dc10 pm10 an10 cd10 ct10), sl10⟩)
    (c10 : PySem.W.codeIn K cd10 "far" = true)
    (k10 : PySem.W.keepIn K (.ref f10) = true)
    (a11 : PySem.W.nsIn K mainGlobals "nexts" = some (some (.ref f11)))
    (l11 : K.lookup f11 = some ⟨oc11, od11, .func (PySem.W.fnOf "nexts" "nexts" (defArgs sNextsB) (defBody sNextsB) (defScope sNextsB) .none kV11 dc11 pm11 an11 cd11 ct11), sl11⟩)
    (c11 : PySem.W.codeIn K cd11 "nexts" = true)
    (k11 : PySem.W.keepIn K (.ref f11) = true)
    (a12 : PySem.W.nsIn K mainGlobals "far_holds" = some (some (.ref f12)))
    (l12 : K.lookup f12 = some ⟨oc12, od12, .func (PySem.W.fnOf "far_holds" "far_holds" (defArgs sFarHB) (defBody sFarHB) (defScope sFarHB) .none kV12 dc12 pm12 an12 cd12 ct12), sl12⟩)
    (c12 : PySem.W.codeIn K cd12 "far_holds" = true)
    (k12 : PySem.W.keepIn K (.ref f12) = true)
    (a13 : PySem.W.nsIn K mainGlobals "least_way" = some (some (.ref f13)))
    (l13 : K.lookup f13 = some ⟨oc13, od13, .func (PySem.W.fnOf "least_way" "least_way" (defArgs sLeastB) (defBody sLeastB) (defScope sLeastB) .none kV13 dc13 pm13 an13 cd13 ct13), sl13⟩)
    (c13 : PySem.W.codeIn K cd13 "least_way" = true)
    (k13 : PySem.W.keepIn K (.ref f13) = true)
    (a14 : PySem.W.nsIn K mainGlobals "round_way" = some (some (.ref f14)))
    (l14 : K.lookup f14 = some ⟨oc14, od14, .func (PySem.W.fnOf "round_way" "round_way" (defArgs sRoundB) (defBody sRoundB) (defScope sRoundB) .none kV14 dc14 pm14 an14 cd14 ct14), sl14⟩)
    (c14 : PySem.W.codeIn K cd14 "round_way" = true)
    (k14 : PySem.W.keepIn K (.ref f14) = true)
    (a15 : PySem.W.nsIn K mainGlobals "law" = some (some (.ref f15)))
    (l15 : K.lookup f15 = some ⟨oc15, od15, .func (PySem.W.fnOf "law" "law" (defArgs sLaw) (defBody sLaw) (defScope sLaw) .none kV15 dc15 pm15 an15 (.ref cT) ct15), sl15⟩)
    (c15 : PySem.W.codeIn K (.ref cT) "law" = true)
    (k15 : PySem.W.keepIn K (.ref f15) = true)
    (aS : PySem.W.nsIn K mainGlobals "SlipError" = some (some (.ref CS)))
    (rd : PySem.W.readsIn K CS (.type "type") = true)
    (rga : PySem.W.specialIn K (.ref CS) "__getattribute__" = some (some (.builtin "type.__getattribute__")))
    (atS : PySem.W.findCls K (.ref CS) (.type "type") "__init__" = some (.val (.ref fS)))
    (lS : K.lookup fS = some ⟨ocS, odS, .func (PySem.W.fnOf "__init__" "SlipError.__init__" (defArgs sSlipI) (defBody sSlipI) (defScope sSlipI) (.ref TD) kVS dcS pmS anS cdS ctS), slS⟩)
    (lT : K.lookup TD = some ⟨ocT, odT, .seq #[.str "sliperror" tk1, .str "refused" tk2] nT, slT⟩)
    (cS : PySem.W.codeIn K cdS "SlipError.__init__" = true)
    (kS : PySem.W.keepIn K (.ref fS) = true)
    (vV : PySem.W.findCls K (.type "ValueError") (.type "type") "__init__" = some (.val (.builtin "ValueError.__init__")))
    (zV : PySem.W.nsIn K mainGlobals "ValueError" = some none)
    (aNoHouse : PySem.W.nsIn K mainGlobals "NoHouse" = some (some (.ref CNoHouse)))
    (xNoHouse : K.lookup CNoHouse = some (excClassObj nmNoHouse qnNoHouse CNoHouse NNoHouse bsNoHouse bmNoHouse true snNoHouse subNoHouse abNoHouse colNoHouse ddNoHouse p0NoHouse p1NoHouse p2NoHouse p3NoHouse p5NoHouse "ValueError.__new__"))
    (rNoHouse : PySem.HandSPX.refsVE bmNoHouse = true)
    (saNoHouse : PySem.W.findIn K (.ref CNoHouse) "__setattr__" = some (some (.builtin "object.__setattr__")))
    (exNoHouse : PySem.W.subIn K (.ref CNoHouse) (.type "BaseException") = some true)
    (tyNoHouse : PySem.W.typeIn K (.ref CNoHouse) = some (.type "type"))
    (kcNoHouse : PySem.W.keepIn K (.ref CNoHouse) = true)
    (gaNoHouse : PySem.W.findIn K (.ref CNoHouse) "__getattribute__" = some (some (.builtin "BaseException.__getattribute__")))
    (ggNoHouse : PySem.W.findIn K (.ref CNoHouse) "__getattr__" = some none)
    (hdNoHouse : PySem.W.hasDictIn K CNoHouse = true)
    (iNoHouse : PySem.W.findIn K (.ref CNoHouse) "__init__" = some (some (.ref fNoHouse)))
    (tiNoHouse : PySem.W.typeIn K (.ref fNoHouse) = some (.type "function"))
    (lNoHouse : K.lookup fNoHouse = some ⟨ocNoHouse, odNoHouse, .func (PySem.W.fnOf "__init__" "NoHouse.__init__" (defArgs sNoHouseI) (defBody sNoHouseI) (defScope sNoHouseI) .none kVNoHouse dcNoHouse pmNoHouse anNoHouse cdNoHouse ctNoHouse), slNoHouse⟩)
    (cNoHouse : PySem.W.codeIn K cdNoHouse "NoHouse.__init__" = true)
    (kfNoHouse : PySem.W.keepIn K (.ref fNoHouse) = true)
    (wNoHouse : PySem.W.findIn K (.ref CNoHouse) "word" = some none)
    (flNoHousehouse : PySem.W.findIn K (.ref CNoHouse) "house" = some none)
    (icNoHouse : PySem.W.isClsIn K CNoHouse = true)
    (suNoHouseNoHouse : PySem.W.subIn K (.ref CNoHouse) (.ref CNoHouse) = some true)
    (aNoTie : PySem.W.nsIn K mainGlobals "NoTie" = some (some (.ref CNoTie)))
    (aTooMany : PySem.W.nsIn K mainGlobals "TooMany" = some (some (.ref CTooMany)))
    (aNoTunnel : PySem.W.nsIn K mainGlobals "NoTunnel" = some (some (.ref CNoTunnel)))
    (aShort : PySem.W.nsIn K mainGlobals "Short" = some (some (.ref CShort)))
    (aLone : PySem.W.nsIn K mainGlobals "Lone" = some (some (.ref CLone)))
    (tP : tabOf K cT = some PT)
    (hdP : PySem.W.codeHdIn K cT PT = true)
    (nP : K.lookup PT = none)
    (eP : h.get? PT = some { cls := .none, data := .fields #[] })
    (zlen : PySem.W.nsIn K mainGlobals "len" = some none)
    (zrange : PySem.W.nsIn K mainGlobals "range" = some none)
    (zlist : PySem.W.nsIn K mainGlobals "list" = some none)
    (ztuple : PySem.W.nsIn K mainGlobals "tuple" = some none)
    (zisinstance : PySem.W.nsIn K mainGlobals "isinstance" = some none)
    (zbool : PySem.W.nsIn K mainGlobals "bool" = some none)
    (zint : PySem.W.nsIn K mainGlobals "int" = some none)
    (zstr : PySem.W.nsIn K mainGlobals "str" = some none)
    (zall : PySem.W.nsIn K mainGlobals "all" = some none)
    (zzip : PySem.W.nsIn K mainGlobals "zip" = some none)
    (zsum : PySem.W.nsIn K mainGlobals "sum" = some none)
    (zmin : PySem.W.nsIn K mainGlobals "min" = some none)
    (zsorted : PySem.W.nsIn K mainGlobals "sorted" = some none)
    (zabs : PySem.W.nsIn K mainGlobals "abs" = some none)
    (zenumerate : PySem.W.nsIn K mainGlobals "enumerate" = some none)
    : LamX.LawAtS l w K CX0 12 63 "_law_script" mg fa h := by
  have e := hfa.symm.trans (PySem.W.mg_of X G a15)
  cases e
  have T : BT mg := ⟨PySem.W.mg_none_of X G zlen, PySem.W.mg_none_of X G zrange, PySem.W.mg_none_of X G zlist, PySem.W.mg_none_of X G ztuple, PySem.W.mg_none_of X G zisinstance, PySem.W.mg_none_of X G zbool, PySem.W.mg_none_of X G zint, PySem.W.mg_none_of X G zstr, PySem.W.mg_none_of X G zall, PySem.W.mg_none_of X G zzip, PySem.W.mg_none_of X G zsum, PySem.W.mg_none_of X G zmin, PySem.W.mg_none_of X G zsorted, PySem.W.mg_none_of X G zabs, PySem.W.mg_none_of X G zenumerate⟩
  have F_law_box := fun_mk (st := sBox) l0 c0 k0
  have g_law_box := PySem.W.mg_of X G a0
  have b_law_box := F_law_box.binds (ps := ["_law_script"]) fun _ _ _ _ _ _ us hl => match us, hl with | [_], _ => rfl
  have F_law_take := fun_mk (st := sTake) l1 c1 k1
  have g_law_take := PySem.W.mg_of X G a1
  have b_law_take := F_law_take.binds (ps := ["_law_box_here", "_law_sides"]) fun _ _ _ _ _ _ us hl => match us, hl with | [_, _], _ => rfl
  have F_law_same := fun_mk (st := sSame) l2 c2 k2
  have g_law_same := PySem.W.mg_of X G a2
  have b_law_same := F_law_same.binds (ps := ["_law_found", "_law_due"]) fun _ _ _ _ _ _ us hl => match us, hl with | [_, _], _ => rfl
  have F_law_wild := fun_mk (st := sWild) l3 c3 k3
  have g_law_wild := PySem.W.mg_of X G a3
  have b_law_wild := F_law_wild.binds (ps := ["_law_box_here"]) fun _ _ _ _ _ _ us hl => match us, hl with | [_], _ => rfl
  have F_law_why := fun_mk (st := sWhy) l4 c4 k4
  have g_law_why := PySem.W.mg_of X G a4
  have b_law_why := F_law_why.binds (ps := ["_law_ask"]) fun _ _ _ _ _ _ us hl => match us, hl with | [_], _ => rfl
  have F_law_pairs := fun_mk (st := sPairs) l5 c5 k5
  have g_law_pairs := PySem.W.mg_of X G a5
  have b_law_pairs := F_law_pairs.binds (ps := ["_law_many"]) fun _ _ _ _ _ _ us hl => match us, hl with | [_], _ => rfl
  have F_law_some_ties := fun_mk (st := sSome) l6 c6 k6
  have g_law_some_ties := PySem.W.mg_of X G a6
  have b_law_some_ties := F_law_some_ties.binds (ps := ["_law_box_here", "_law_many", "_law_odds"]) fun _ _ _ _ _ _ us hl => match us, hl with | [_, _, _], _ => rfl
  have F_law_far := fun_mk (st := sLFar) l7 c7 k7
  have g_law_far := PySem.W.mg_of X G a7
  have b_law_far := F_law_far.binds (ps := ["_law_many", "_law_ties", "_law_goal"]) fun _ _ _ _ _ _ us hl => match us, hl with | [_, _, _], _ => rfl
  have Fcheck_house := fun_mk (st := sCheck) l8 c8 k8
  have gcheck_house := PySem.W.mg_of X G a8
  have bcheck_house := Fcheck_house.binds (ps := ["many", "house"]) fun _ _ _ _ _ _ us hl => match us, hl with | [_, _], _ => rfl
  have Fcheapen := fun_mk (st := sCheap) l9 c9 k9
  have gcheapen := PySem.W.mg_of X G a9
  have bcheapen := Fcheapen.binds (ps := ["prices", "house", "near", "price"]) fun _ _ _ _ _ _ us hl => match us, hl with | [_, _, _, _], _ => rfl
  have Ffar := fun_mk (st := sFar) l10 c10 k10
  have gfar := PySem.W.mg_of X G a10
  have bfar := Ffar.binds (ps := ["many", "ties", "goal"]) fun _ _ _ _ _ _ us hl => match us, hl with | [_, _, _], _ => rfl
  have Fnexts := fun_mk (st := sNextsB) l11 c11 k11
  have gnexts := PySem.W.mg_of X G a11
  have bnexts := Fnexts.binds (ps := ["many", "ties", "goal"]) fun _ _ _ _ _ _ us hl => match us, hl with | [_, _, _], _ => rfl
  have Ffar_holds := fun_mk (st := sFarHB) l12 c12 k12
  have gfar_holds := PySem.W.mg_of X G a12
  have bfar_holds := Ffar_holds.binds (ps := ["many", "ties", "goal", "told"]) fun _ _ _ _ _ _ us hl => match us, hl with | [_, _, _, _], _ => rfl
  have Fleast_way := fun_mk (st := sLeastB) l13 c13 k13
  have gleast_way := PySem.W.mg_of X G a13
  have bleast_way := Fleast_way.binds (ps := ["many", "ties", "start", "goal"]) fun _ _ _ _ _ _ us hl => match us, hl with | [_, _, _, _], _ => rfl
  have Fround_way := fun_mk (st := sRoundB) l14 c14 k14
  have ground_way := PySem.W.mg_of X G a14
  have bround_way := Fround_way.binds (ps := ["many", "ties", "one", "other"]) fun _ _ _ _ _ _ us hl => match us, hl with | [_, _, _, _], _ => rfl
  have Flaw := fun_mk (st := sLaw) l15 c15 k15
  have glaw := PySem.W.mg_of X G a15
  have blaw := Flaw.binds (ps := ["_law_script"]) fun _ _ _ _ _ _ us hl => match us, hl with | [_], _ => rfl
  have FS : FunD K "__init__" "SlipError.__init__" (defArgs sSlipI) (defBody sSlipI) (defScope sSlipI) [.str "sliperror", .str "refused"] [] fS _ := ⟨⟨_, _, _, _, _, _, _, _, _, _, rfl, lS, cS, .inr ⟨fun z => (by cases z), TD, _, [.str "sliperror" tk1, .str "refused" tk2], nT, rfl, lT, rfl, .cons ⟨_, rfl⟩ (.cons ⟨_, rfl⟩ .nil)⟩, .inl rfl⟩, kS⟩
  have bS : Binds K (PySem.W.fnOf "__init__" "SlipError.__init__" (defArgs sSlipI) (defBody sSlipI) (defScope sSlipI) (.ref TD) kVS dcS pmS anS cdS ctS) ["self", "word", "why"] [] := by
    obtain ⟨ds, hd, hb⟩ := FS.binds1 (ps := ["self", "word", "why"]) 3 2 (fun z => by cases z) rfl (fun T kV doc pm an cdv ct us its hu hi => match us, hu, its, hi with | [_, _, _], _, [_, _], _ => ⟨_, rfl, rfl⟩)
    cases hd
    exact hb
  have TS : SlipT K mg CS fS := ⟨PySem.W.mg_of X G aS, ⟨rd, rga⟩, atS, kS, vV, PySem.W.mg_none_of X G zV⟩
  have FNoHouse := fun_mk (st := sNoHouseI) lNoHouse cNoHouse kfNoHouse
  have bNoHouse := FNoHouse.binds (ps := ["self", "house"]) fun _ _ _ _ _ _ us hl => match us, hl with | [_, _], _ => rfl
  have TNoHouse : ExcT K mg "NoHouse" CNoHouse fNoHouse := ⟨PySem.W.mg_of X G aNoHouse, ⟨⟨_, _, _, _, _, _, _, _, _, _, _, _, _, _, _, xNoHouse, rNoHouse⟩, saNoHouse, exNoHouse, tyNoHouse, kcNoHouse⟩, ⟨gaNoHouse, ggNoHouse, exNoHouse, hdNoHouse⟩, iNoHouse, tiNoHouse, wNoHouse⟩
  have emNoHouseNoHouse : PySem.W.exmOne K (.ref CNoHouse) (.ref CNoHouse) = some true := exm_pair exNoHouse icNoHouse tyNoHouse suNoHouseNoHouse
  refine ⟨PySem.W.fnOf "law" "law" (defArgs sLaw) (defBody sLaw) (defScope sLaw) .none kV15 dc15 pm15 an15 (.ref cT) ct15, [(cT, PT)], spLawT K PT, fun p hp => ?_, fun p hp => ?_, fun p hp => ?_, fun s v => .of_eq rfl, fun H a ns hl _ hH hS => ⟨a, ns, rfl, hS, hl, fun p hp => ?_, fun _ => rfl⟩, fun base KB GB hTB => ?_⟩
  · rw [List.mem_singleton.mp hp]; exact eP
  · rw [List.mem_singleton.mp hp]; exact nP
  · rw [List.mem_singleton.mp hp]; exact PySem.W.codeHd_of_K X hdP
  · rw [List.mem_singleton.mp hp]; exact ⟨#[], hH (cT, PT) (by simp), trivial, fun pos cv hc => by cases hc⟩
  have TB : LamX.TabB base mg cT PT := hTB (cT, PT) (by simp)
  have GS : ∀ j, FnOk l.prog w K mg base CX0 (j + 1) fS _ ["self", "word", "why"] (spSlip K) := fun j => ok_slipI (k := j) FS TS
  have XH : ExcC l.prog w K mg base 2 "NoHouse" CNoHouse fNoHouse _ ["self", "house"] (spIn1 K "house" "nohouse" askInt gotSame) := ⟨TNoHouse, ok_nohouseI (k := 0) FNoHouse TS (GS 0) bS, bNoHouse⟩
  have cX : CalX l.prog w K mg base 4 "check_house" _ _ ["many", "house"] (spCheckX CNoHouse) := ⟨ok_checkX (k := 0) Fcheck_house XH flNoHousehouse, gcheck_house, k8, bcheck_house⟩
  have GB_far : FnOk l.prog w K mg base (L2.CX l.prog w) 9 _ _ ["many", "ties", "goal"] (spB3 CNoHouse) := (ok_farB (k := 3) Ffar cX).mono (by decide)
  have cF : CalX l.prog w K mg base 5 "far" _ _ ["many", "ties", "goal"] (spB3 CNoHouse) := ⟨ok_farB (k := 3) Ffar cX, gfar, k10, bfar⟩
  have GB_nexts : FnOk l.prog w K mg base (L2.CX l.prog w) 9 _ _ ["many", "ties", "goal"] (spB3 CNoHouse) := (ok_nextsB (k := 4) Fnexts cF).mono (by decide)
  have GB_far_holds : FnOk l.prog w K mg base (L2.CX l.prog w) 9 _ _ ["many", "ties", "goal", "told"] (spB4h CNoHouse) := (ok_farHB (k := 3) Ffar_holds cX).mono (by decide)
  have GB_least_way : FnOk l.prog w K mg base (L2.CX l.prog w) 9 _ _ ["many", "ties", "start", "goal"] (spB4 CNoHouse) := (ok_leastB (k := 3) Fleast_way cX).mono (by decide)
  have GB_round_way : FnOk l.prog w K mg base (L2.CX l.prog w) 9 _ _ ["many", "ties", "one", "other"] (spB4 CNoHouse) := (ok_roundB (k := 3) Fround_way cX).mono (by decide)
  have WT : WhyT mg CNoHouse CNoTie CTooMany CNoTunnel CShort CLone CS := ⟨PySem.W.mg_of X G aNoHouse, PySem.W.mg_of X G aNoTie, PySem.W.mg_of X G aTooMany, PySem.W.mg_of X G aNoTunnel, PySem.W.mg_of X G aShort, PySem.W.mg_of X G aLone, PySem.W.mg_of X G aS⟩
  exact ok_law ⟨ok_box (k := 10) F_law_box T.list, g_law_box, k0, b_law_box⟩ ⟨ok_take (k := 10) F_law_take T.len, g_law_take, k1, b_law_take⟩ ⟨ok_wild (k := 9) F_law_wild ⟨ok_take (k := 9) F_law_take T.len, g_law_take, k1, b_law_take⟩, g_law_wild, k3, b_law_wild⟩ ⟨ok_some (k := 9) F_law_some_ties F_law_take g_law_take b_law_take F_law_pairs g_law_pairs b_law_pairs T.len T.sum T.range, g_law_some_ties, k6, b_law_some_ties⟩ ⟨ok_same F_law_same ⟨T.isinstance, T.list, T.tuple, T.bool, T.int, T.str, T.len, T.all, T.zip⟩ g_law_same b_law_same 11, g_law_same, k2, b_law_same⟩ ⟨ok_far (k := 9) Ffar Fcheck_house Fcheapen gcheck_house gcheapen T.range bcheck_house bcheapen, gfar, k10, bfar⟩ ⟨ok_lfar (k := 10) F_law_far T.range, g_law_far, k7, b_law_far⟩ GB_far bfar gfar k10 GB_nexts bnexts gnexts k11 GB_far_holds bfar_holds gfar_holds k12 GB_least_way bleast_way gleast_way k13 GB_round_way bround_way ground_way k14 l15 c15 T g_law_why k4 l4 c4 b_law_why WT TB emNoHouseNoHouse TNoHouse.xf flNoHousehouse
end K

open PySem PySem.W PyProof.Rows
set_option maxRecDepth 100000 in
set_option maxHeartbeats 0 in
theorem PySem.Challenge.cw_swapslip_k66_goals_that_there_are_none_o_holds : PySem.Challenge.rw_swapslip_k66_goals_that_there_are_none_o.Holds := by
  w_on; o_law; k_head; (case hw => w_witness2)
  k_fill
  refine LamX.walk_ofTs (l := PySem.Challenge.rw_swapslip_k66_goals_that_there_are_none_o) (n := 63) (k := 12) (x := "_law_script") (CX := fun _ => L2.CX0) rfl (by decide) rfl ⟨rfl, by decide, by decide⟩ (fun w h Y => PySem.W.km_in_of Y) ?F (fun _ _ _ _ _ z => z)
  case F =>
    intro w mg fa h Y KX G hmg
    refine' K.all_mk KX G hmg ?a0 ?l0 ?c0 ?k0 ?a1 ?l1 ?c1 ?k1 ?a2 ?l2 ?c2 ?k2 ?a3 ?l3 ?c3 ?k3 ?a4 ?l4 ?c4 ?k4 ?a5 ?l5 ?c5 ?k5 ?a6 ?l6 ?c6 ?k6 ?a7 ?l7 ?c7 ?k7 ?a8 ?l8 ?c8 ?k8 ?a9 ?l9 ?c9 ?k9 ?a10 ?l10 ?c10 ?k10 ?a11 ?l11 ?c11 ?k11 ?a12 ?l12 ?c12 ?k12 ?a13 ?l13 ?c13 ?k13 ?a14 ?l14 ?c14 ?k14 ?a15 ?l15 ?c15 ?k15 ?aS ?rd ?rga ?atS ?lS ?lT ?cS ?kS ?vV ?zV ?aNoHouse ?xNoHouse ?rNoHouse ?saNoHouse ?exNoHouse ?tyNoHouse ?kcNoHouse ?gaNoHouse ?ggNoHouse ?hdNoHouse ?iNoHouse ?tiNoHouse ?lNoHouse ?cNoHouse ?kfNoHouse ?wNoHouse ?flNoHousehouse ?icNoHouse ?suNoHouseNoHouse ?aNoTie ?aTooMany ?aNoTunnel ?aShort ?aLone ?tP ?hdP ?nP ?eP ?zlen ?zrange ?zlist ?ztuple ?zisinstance ?zbool ?zint ?zstr ?zall ?zzip ?zsum ?zmin ?zsorted ?zabs ?zenumerate
    (case a0 => k_is)
    (case l0 => k_is)
    (case c0 => k_is)
    (case k0 => k_is)
    (case a1 => k_is)
    (case l1 => k_is)
    (case c1 => k_is)
    (case k1 => k_is)
    (case a2 => k_is)
    (case l2 => k_is)
    (case c2 => k_is)
    (case k2 => k_is)
    (case a3 => k_is)
    (case l3 => k_is)
    (case c3 => k_is)
    (case k3 => k_is)
    (case a4 => k_is)
    (case l4 => k_is)
    (case c4 => k_is)
    (case k4 => k_is)
    (case a5 => k_is)
    (case l5 => k_is)
    (case c5 => k_is)
    (case k5 => k_is)
    (case a6 => k_is)
    (case l6 => k_is)
    (case c6 => k_is)
    (case k6 => k_is)
    (case a7 => k_is)
    (case l7 => k_is)
    (case c7 => k_is)
    (case k7 => k_is)
    (case a8 => k_is)
    (case l8 => k_is)
    (case c8 => k_is)
    (case k8 => k_is)
    (case a9 => k_is)
    (case l9 => k_is)
    (case c9 => k_is)
    (case k9 => k_is)
    (case a10 => k_is)
    (case l10 => k_is)
    (case c10 => k_is)
    (case k10 => k_is)
    (case a11 => k_is)
    (case l11 => k_is)
    (case c11 => k_is)
    (case k11 => k_is)
    (case a12 => k_is)
    (case l12 => k_is)
    (case c12 => k_is)
    (case k12 => k_is)
    (case a13 => k_is)
    (case l13 => k_is)
    (case c13 => k_is)
    (case k13 => k_is)
    (case a14 => k_is)
    (case l14 => k_is)
    (case c14 => k_is)
    (case k14 => k_is)
    (case a15 => k_is)
    (case l15 => k_is)
    (case c15 => k_is)
    (case k15 => k_is)
    (case aS => k_is)
    (case rd => k_is)
    (case rga => k_is)
    (case atS => k_is)
    (case lS => k_is)
    (case lT => k_is)
    (case cS => k_is)
    (case kS => k_is)
    (case vV => k_is)
    (case zV => k_is)
    (case aNoHouse => k_is)
    (case xNoHouse => k_is)
    (case rNoHouse => first | rfl | decide +kernel)
    (case saNoHouse => k_is)
    (case exNoHouse => k_is)
    (case tyNoHouse => k_is)
    (case kcNoHouse => k_is)
    (case gaNoHouse => k_is)
    (case ggNoHouse => k_is)
    (case hdNoHouse => k_is)
    (case iNoHouse => k_is)
    (case tiNoHouse => k_is)
    (case lNoHouse => k_is)
    (case cNoHouse => k_is)
    (case kfNoHouse => k_is)
    (case wNoHouse => k_is)
    (case flNoHousehouse => k_is)
    (case icNoHouse => k_is)
    (case suNoHouseNoHouse => first | rfl | k_is)
    (case aNoTie => k_is)
    (case aTooMany => k_is)
    (case aNoTunnel => k_is)
    (case aShort => k_is)
    (case aLone => k_is)
    (case tP => first | rfl | k_is)
    (case hdP => first | rfl | k_is | decide +kernel)
    (case nP => first | rfl | k_is)
    (case eP => exact PySem.W.km_tabs_of Y _ (by first | k_mem | simp))
    (case zlen => k_is)
    (case zrange => k_is)
    (case zlist => k_is)
    (case ztuple => k_is)
    (case zisinstance => k_is)
    (case zbool => k_is)
    (case zint => k_is)
    (case zstr => k_is)
    (case zall => k_is)
    (case zzip => k_is)
    (case zsum => k_is)
    (case zmin => k_is)
    (case zsorted => k_is)
    (case zabs => k_is)
    (case zenumerate => k_is)
