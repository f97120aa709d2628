import PyProof.Rows.All
import Wide.All
import OpenK.AllK
import Wide.FinOn
import HandS.ForMost
import HandS.IsInst
import HandS.Zip
import HandS.Walk
import HandS.More
import HandS.SortKw
import HandS.ForExc
import HandS.ExcInit
import HandS.ExcField
import HandS.TryMany
import HandS.ClsMeth
import HandS.FStr
import HandS.FStrTup
import HandS.WordsExc
import HandS.Defaults
import HandS.SuiteRaise
import HandS.RaiseFrom
import HandS.ExcInitHot
import KE.KAsSuite
import KE.KExcIs
import HandS.Text
import HandS.SortInts
import HandS.SetFor
import HandS.Iter
import HandS.Comp
import HandS.Flow
import HandS.Exc
import KE.GoesRaise
import HandS.Deep
import PySem.Challenge.RW_swapslip_k09_ranges_refused
set_option Elab.async false
set_option linter.all false
set_option maxRecDepth 100000
set_option maxHeartbeats 2000000


namespace PySem
namespace F
theorem args_sum2 (a b : Value) : argsOk "sum" ⟨[a, b], []⟩ := by unfold argsOk; kernel_rfl
end F
/-- the items of the lists from the i-th on, k of them -/
def catFrom (xs : Nat → Array Value) (i : Nat) : Nat → Array Value
  | 0 => #[]
  | k + 1 => xs i ++ catFrom xs (i + 1) k
section
variable {prog : Program} {w : World} {A : Around} {R : Result → Shared → Prop}
theorem sum_lists_loop (hh : A.in1.handled = none) (I ax S : Addr) (hne : ax ≠ I) (hSI : S ≠ I) (hSa : S ≠ ax) (items : Array Value) (ls : Nat → Addr) (xs : Nat → Array Value)
    (hit : ∀ (i : Nat) (v : Value), items[i]? = some v → v = Value.ref (ls i)) (hlI : ∀ i, i < items.size → ls i ≠ I) (hlS : ∀ i, i < items.size → ls i ≠ S) :
    ∀ (k i : Nat) (s : Shared) (acc : Addr) (ai : Array Value) (m c : Nat), items.size - i = k → i ≤ items.size → (s.heap.IsListIter I ax i ∧ s.heap.IsList ax items) →
      s.heap.get? S = some { cls := .type "list", dict := none, data := .seq #[.ref acc] c, slots := #[] } → s.heap.get? acc = some { cls := .type "list", data := .seq ai m } →
      (∀ j, j < items.size → ∃ n, s.heap.get? (ls j) = some { cls := .type "list", data := .seq (xs j) n }) → acc ≠ I → acc ≠ S →
      ai.size + (catFrom xs i k).size ≤ sizeLine →
      (∀ h' tk r n, (∀ b o, b ≠ I → b ≠ S → s.heap.get? b = some o → h'.get? b = some o) → h'.get? r = some { cls := .type "list", data := .seq (ai ++ catFrom xs i k) n } → (k = 0 → r = acc) → (0 < k → S < r) → R (.ok (.ret (.ref r))) { s with heap := h', toks := tk }) →
      codeAny (model prog w) A (.builtin "sum.loop" ⟨[.ref I, .ref S, rawInt 2, rawInt 0], []⟩) R s := by
  have W := Walks.list (prog := prog) (w := w) hh I ax hne items
  intro k
  induction k with
  | zero =>
    intro i s acc ai m c hk hi hst hS ha hl haI haS hz hR
    have hin : i = items.size := by omega
    subst hin
    refine codeAny_builtin F.entry_sum_loop ?_
    rw [Around.under_plainId F.plain_sum_loop _]
    show wpAny _ A.in1 (seqItems? (.ref S) >>= _) _ _ s
    refine wpAny_bind (wpAny_seqItems hS rfl ?_)
    show wpAny _ A.in1 (tryCatch (pyNext (.ref I)) _ >>= _) _ _ s
    refine wpAny_bind (wpAny_tryCatch (W.done s _ _ hst fun h' tk hk' => ?_))
    refine wpAny_pure (hR h' tk acc m (fun b o hbI hbS e => hk' b o (by simpa using hbI) e) ?_ (fun _ => rfl) (fun h => absurd h (Nat.lt_irrefl _)))
    have := hk' acc _ (by simpa using haI) ha
    simpa [catFrom] using this
  | succ k ih =>
    intro i s acc ai m c hk hi hst hS ha hl haI haS hz hR
    have hlt : i < items.size := by omega
    refine codeAny_builtin F.entry_sum_loop ?_
    rw [Around.under_plainId F.plain_sum_loop _]
    show wpAny _ A.in1 (seqItems? (.ref S) >>= _) _ _ s
    refine wpAny_bind (wpAny_seqItems hS rfl ?_)
    show wpAny _ A.in1 (tryCatch (pyNext (.ref I)) _ >>= _) _ _ s
    refine wpAny_bind (wpAny_tryCatch (W.item i s _ _ hlt hst fun v h' tk hP hst' hk' => ?_))
    have ev := hit i v hP
    subst ev
    have hS' := hk' S _ (by simpa using hSI) hS
    have ha' := hk' acc _ (by simpa using haI) ha
    obtain ⟨n1, hl1⟩ := hl i hlt
    have hl1' := hk' (ls i) _ (by simpa using hlI i hlt) hl1
    have hzz : ai.size + (xs i).size ≤ sizeLine := by
      have : (catFrom xs i (k + 1)).size = (xs i).size + (catFrom xs (i + 1) k).size := by simp [catFrom]
      omega
    show wpAny _ A.in1 ((holding [Value.ref (ls i)] (binaryOp .Add (.ref acc) (.ref (ls i)))).attempt >>= _) _ _ _
    refine wpAny_bind (wpAny_attempt (wpAny_holding (PySem.P.add_list (s := { s with heap := h', toks := tk }) ha' hl1' ?_ hzz)))
    have hSz : S < h'.objs.size := Heap.lt_size hS'
    have hIz : I < h'.objs.size := by obtain ⟨_, e, _⟩ := hst'.1; exact Heap.lt_size e
    have hS2 : (h'.push { cls := .type "list", data := .seq (ai ++ xs i) }).get? S = _ := Heap.get?_push_of_some _ hS'
    show wpAny _ A.in1 (updateSeq S (fun _ => #[.ref h'.objs.size]) >>= _) _ _ _
    refine wpAny_bind (wpAny_updateSeq hS2 rfl ?_)
    have hS₃ := Heap.get?_update_self (Obj.mapSeq fun _ => #[Value.ref h'.objs.size]) hS2 rfl
    refine wpAny_bind (wpAny_letGo ?_)
    refine wpAny_bind (wpAny_updateSeq hS₃ rfl ?_)
    have hS₄ := Heap.get?_update_self (Obj.mapSeq fun _ => #[Value.ref h'.objs.size]) hS₃ rfl
    have keep : ∀ b o, b ≠ S → h'.get? b = some o → (((h'.push { cls := .type "list", data := .seq (ai ++ xs i) }).update S (Obj.mapSeq fun _ => #[Value.ref h'.objs.size])).update S (Obj.mapSeq fun _ => #[Value.ref h'.objs.size])).get? b = some o := fun b o hb e =>
      (Heap.get?_update_other _ _ (Ne.symm hb)).trans ((Heap.get?_update_other _ _ (Ne.symm hb)).trans (Heap.get?_push_of_some _ e))
    have hnew : (((h'.push { cls := .type "list", data := .seq (ai ++ xs i) }).update S (Obj.mapSeq fun _ => #[Value.ref h'.objs.size])).update S (Obj.mapSeq fun _ => #[Value.ref h'.objs.size])).get? h'.objs.size = some { cls := .type "list", data := .seq (ai ++ xs i) } :=
      (Heap.get?_update_other _ _ (Nat.ne_of_lt hSz)).trans ((Heap.get?_update_other _ _ (Nat.ne_of_lt hSz)).trans (Heap.get?_push_size _ rfl))
    refine wpAny_pure ⟨plainId_quiet F.plain_sum_loop _, ih (i + 1) _ h'.objs.size (ai ++ xs i) _ _ (by omega) hlt (W.frame _ _ _ hst' fun b hb o e => keep b o ?_ e) hS₄ hnew ?_ (Nat.ne_of_gt hIz) (Nat.ne_of_gt hSz) ?_ ?_⟩
    · intro q; subst q
      rcases List.mem_cons.mp hb with q | q
      · exact hSI q
      · exact hSa (by simpa using q)
    · intro j hj
      obtain ⟨n2, e2⟩ := hl j hj
      exact ⟨n2, keep _ _ (hlS j hj) (hk' _ _ (by simpa using hlI j hj) e2)⟩
    · have : (catFrom xs i (k + 1)).size = (xs i).size + (catFrom xs (i + 1) k).size := by simp [catFrom]
      simp only [Array.size_append]
      omega
    · intro h2 tk2 r n hk2 hr h0 h1
      refine hR h2 tk2 r n (fun b o hbI hbS e => hk2 b o hbI hbS (keep b o hbS (hk' b o (by simpa using hbI) e))) ?_ (fun q => by omega) (fun _ => ?_)
      · simpa [catFrom, Array.append_assoc] using hr
      · by_cases h00 : k = 0
        · rw [h0 h00]; exact hSz
        · exact h1 (by omega)
end
section
variable {prog : Program} {w : World} {A : Around} {E : Value → Shared → Prop} {s : Shared}
theorem sub_list_str : isSubtype (.type "list") (.type "str") = pure false := by rw [isSubtype_type]; kernel_rfl
theorem sub_list_bytes : isSubtype (.type "list") (.type "bytes") = pure false := by rw [isSubtype_type]; kernel_rfl
theorem sub_list_bytearray : isSubtype (.type "list") (.type "bytearray") = pure false := by rw [isSubtype_type]; kernel_rfl
theorem call_sum_lists {l z : Addr} {items zi : Array Value} {nl nz : Nat} {Q : Value → Shared → Prop} (ls : Nat → Addr) (xs : Nat → Array Value) (hh : A.in1.handled = none)
    (hl : s.heap.get? l = some { cls := .type "list", data := .seq items nl }) (hz : s.heap.get? z = some { cls := .type "list", data := .seq zi nz })
    (hit : ∀ (i : Nat) (v : Value), items[i]? = some v → v = Value.ref (ls i)) (hls : ∀ j, j < items.size → ∃ n, s.heap.get? (ls j) = some { cls := .type "list", data := .seq (xs j) n }) (hpos : 0 < items.size)
    (hsz : zi.size + (catFrom xs 0 items.size).size ≤ sizeLine)
    (h : ∀ h' tk r n, (∀ b o, s.heap.get? b = some o → h'.get? b = some o) → s.heap.objs.size ≤ r → h'.get? r = some { cls := .type "list", data := .seq (zi ++ catFrom xs 0 items.size) n } → Q (.ref r) { s with heap := h', toks := tk }) :
    wpAny (model prog w) A (call (.builtin "sum") [.ref l, .ref z]) Q E s := by
  have hil : s.heap.IsList l items := ⟨_, hl, rfl, _, rfl⟩
  have hiz : s.heap.IsList z zi := ⟨_, hz, rfl, _, rfl⟩
  refine call_function_tree F.kind_sum F.plain_sum F.entry_sum (F.args_sum2 _ _) ?_
  unfold Builtin.«sum»
  simp only [List.length_cons, List.length_nil]
  rw [if_neg (by decide)]
  refine wpAny_bind (wpAny_of_eq (show Builtin.Builtins.bindParams "sum" ["start"] 0 ⟨[.ref z], []⟩ = pure [some (.ref z)] from rfl) ?_)
  refine wpAny_bind (L2.iter_any hil fun s₂ e2 st hne => ?_)
  subst e2
  refine wpAny_bind (wpAny_pure ?_)
  have hiz2 := hiz.push { cls := .type "list_iterator", data := .fields #[.ref l, .int 0 0] }
  simp only [List.forIn_cons, List.forIn_nil]
  refine wpAny_bind (wpAny_bind (wpAny_bind (wpAny_isInstance (T := "list") (b := false) hiz2.typeIs sub_list_str ?_)))
  simp only [Bool.false_eq_true, if_false]
  refine wpAny_pure (wpAny_bind (wpAny_bind (wpAny_isInstance (T := "list") (b := false) hiz2.typeIs sub_list_bytes ?_)))
  simp only [Bool.false_eq_true, if_false]
  refine wpAny_pure (wpAny_bind (wpAny_bind (wpAny_isInstance (T := "list") (b := false) hiz2.typeIs sub_list_bytearray ?_)))
  simp only [Bool.false_eq_true, if_false]
  refine wpAny_pure (wpAny_pure ?_)
  refine wpAny_bind (wpAny_newObj_type ?_)
  have hsz1 : (s.heap.push { cls := .type "list_iterator", data := .fields #[.ref l, .int 0 0] }).objs.size = s.heap.objs.size + 1 := Heap.size_push _ _
  have old : ∀ b o, s.heap.get? b = some o → ((s.heap.push { cls := .type "list_iterator", data := .fields #[.ref l, .int 0 0] }).push { cls := .type "list", data := .seq #[Value.ref z] }).get? b = some o := fun b o e =>
    Heap.get?_push_of_some _ (Heap.get?_push_of_some _ e)
  have lt : ∀ b o, s.heap.get? b = some o → b < s.heap.objs.size := fun b o e => Heap.lt_size e
  have lt2 : ∀ b, b < s.heap.objs.size → b ≠ (s.heap.push { cls := .type "list_iterator", data := .fields #[.ref l, .int 0 0] }).objs.size := fun b hb => Nat.ne_of_lt (by rw [hsz1]; exact Nat.lt_succ_of_lt hb)
  refine wpAny_pure ⟨plainId_quiet F.plain_sum_loop _, sum_lists_loop (A := A) hh s.heap.objs.size l (s.heap.push { cls := .type "list_iterator", data := .fields #[.ref l, .int 0 0] }).objs.size hne (Nat.ne_of_gt (by rw [hsz1]; exact Nat.lt_succ_self _)) (Ne.symm (lt2 _ (lt _ _ hl))) items ls xs hit
    (fun i hi => by obtain ⟨n, e⟩ := hls i hi; exact Nat.ne_of_lt (lt _ _ e)) (fun i hi => by obtain ⟨n, e⟩ := hls i hi; exact lt2 _ (lt _ _ e))
    items.size 0 _ z zi nz 0 (by omega) (Nat.zero_le _) ⟨st.1.at fun o e => Heap.get?_push_of_some _ e, st.2.push _⟩ (Heap.get?_push_size _ rfl) (old _ _ hz) (fun j hj => by obtain ⟨n, e⟩ := hls j hj; exact ⟨n, old _ _ e⟩)
    (Nat.ne_of_lt (lt _ _ hz)) (lt2 _ (lt _ _ hz)) hsz fun h' tk r n hk hr _ h1 => ?_⟩
  refine h h' tk r n (fun b o e => hk b o (Nat.ne_of_lt (lt _ _ e)) (lt2 _ (lt _ _ e)) (old b o e)) ?_ hr
  have := h1 hpos
  rw [hsz1] at this
  exact Nat.le_of_lt (Nat.lt_of_succ_lt this)
end
end PySem

namespace L2
open PySem PySem.Spec PyProof.Rows
section
variable {X : Cx}
/-- xs[i] as it is read in xs[i] op= e -/
def rGetL (K : PySem.W.Frag) : R2 := fun x y H Q => ∃ p xs i v, x = .ref p ∧ y = .int i ∧ SqL K H p xs ∧ 0 ≤ i ∧ xs[i.toNat]? = some v ∧ Q v H
theorem get_listA : PGet X (rGetL X.K) := by
  intro pins s σ H x y v u Q I rx ry h
  obtain ⟨p, xs, i, z, rfl, rfl, hq, h0, he, q⟩ := h
  cases rx
  obtain ⟨t, rfl⟩ := ry
  obtain ⟨its, r, pl, hz⟩ := I.list hq
  obtain ⟨w, ew, rw'⟩ := r.get he
  have hl := r.length
  have hn := line63
  have hlt : i.toNat < xs.length := (List.getElem?_eq_some_iff.mp he).1
  exact wpAny_getItem_list pl.isList h0 (by omega) (by simpa using ew) ⟨z, H, I, rw', q⟩
/-- sum(xss, zs): a list of one list and more, and a list to begin with -/
def rSumL (K : PySem.W.Frag) : List V → Hp → VK → Prop := fun vs H Q => ∃ (a z : Addr) (ls : List Addr) (xss : List (List V)) (zs : List V), vs = [V.ref a, V.ref z] ∧ H a = some (.lst (ls.map V.ref)) ∧ H z = some (.lst zs) ∧
  Paired (fun l xs => H l = some (.lst xs)) ls xss ∧ ls ≠ [] ∧ zs.length + xss.flatten.length ≤ sizeLine ∧ ∀ p, H p = none → Q (.ref p) (upd H p (.lst (zs ++ xss.flatten)))
theorem paired_at {α β : Type} {R : α → β → Prop} : ∀ {xs : List α} {ys : List β}, Paired R xs ys → ∀ (i : Nat) (x : α), xs[i]? = some x → ∃ y, ys[i]? = some y ∧ R x y
  | _, _, .nil, i, x, h => by simp at h
  | _, _, .cons r t, 0, x, h => by simp at h; subst h; exact ⟨_, rfl, r⟩
  | _, _, .cons r t, i + 1, x, h => by
    obtain ⟨y, e, q⟩ := paired_at t i x (by simpa using h)
    exact ⟨y, by simpa using e, q⟩
/-- the items of the list object at a -/
def seqAt (h : Heap) (a : Addr) : Array Value := match h.get? a with
  | some ⟨_, _, .seq xs _, _⟩ => xs
  | _ => #[]
theorem vals_cat {X : Cx} {pins : List (Addr × Obj)} {σ : St} {H : Hp} {s : Shared} (I : Inv X pins σ H s) : ∀ {ls : List Addr} {xss : List (List V)} (f : Nat → Addr) (i : Nat), Paired (fun l xs => H l = some (.lst xs)) ls xss → (∀ j a, ls[j]? = some a → f (i + j) = a) →
    Vals xss.flatten (catFrom (fun j => seqAt s.heap (f j)) i ls.length).toList
  | _, _, f, i, .nil, _ => .nil
  | _, _, f, i, .cons (a := l) (b := xs) (l₁ := ls) (l₂ := xss) r t, h => by
    obtain ⟨z, its, n, rv, hl, e⟩ := I.lstM r
    have e0 : f i = l := h 0 l rfl
    have es : seqAt s.heap (f i) = its.toArray := by
      unfold seqAt
      rw [e0, e]
    have ih := vals_cat I f (i + 1) t fun j a ha => by rw [show i + 1 + j = i + (j + 1) by omega]; exact h (j + 1) a (by simpa using ha)
    show Vals (xs ++ xss.flatten) (seqAt s.heap (f i) ++ catFrom (fun j => seqAt s.heap (f j)) (i + 1) ls.length).toList
    rw [es, Array.toList_append]
    exact rv.append ih
theorem vals_refs : ∀ {ls : List Addr} {us : List Value}, Vals (ls.map V.ref) us → us = ls.map Value.ref
  | [], _, .nil => rfl
  | l :: ls, _, .cons r t => by
    rw [vals_refs t]
    cases r
    rfl
theorem cr_sumL (hc : X.calm = true) : CallR X (.builtin "sum") (rSumL X.K) := by
  intro pins s σ H vs us Q I r h
  obtain ⟨a, z, ls, xss, zs, rfl, ha, hz, hp, hne, hsz, q⟩ := h
  obtain ⟨u1, u2, rfl, r1, r2⟩ := Vals.two r
  cases (show u1 = Value.ref a from r1)
  cases (show u2 = Value.ref z from r2)
  obtain ⟨_, its, n, rv, hl, e⟩ := I.lstM ha
  obtain ⟨_, itz, nz, rz, hlz, ez⟩ := I.lstM hz
  have ei := vals_refs rv
  subst ei
  have hlen : (ls.map Value.ref).toArray.size = ls.length := by simp
  have hcat := vals_cat I (fun j => ls.getD j 0) 0 hp (fun j b hb => by
    show ls.getD (0 + j) 0 = b
    rw [Nat.zero_add, List.getD_eq_getElem?_getD, hb]
    rfl)
  have hcl := hcat.length
  refine call_sum_lists (items := (ls.map Value.ref).toArray) (zi := itz.toArray) (fun j => ls.getD j 0) (fun j => seqAt s.heap (ls.getD j 0)) (I.ok.hd hc) e ez (fun i v hv => ?_) (fun j hj => ?_) ?_ ?_ fun h' tk p n' hk hp' hr => ?_
  · have hv' : (ls.map Value.ref)[i]? = some v := by simpa using hv
    rw [List.getElem?_map] at hv'
    obtain ⟨b, hb, rfl⟩ := Option.map_eq_some_iff.mp hv'
    rw [List.getD_eq_getElem?_getD, hb]
    rfl
  · rw [hlen] at hj
    have hb : ls[j]? = some ls[j] := List.getElem?_eq_getElem hj
    obtain ⟨ys, _, hy⟩ := paired_at hp j _ hb
    obtain ⟨_, itj, nj, _, _, ej⟩ := I.lstM hy
    refine ⟨nj, ?_⟩
    have : ls.getD j 0 = ls[j] := by rw [List.getD_eq_getElem?_getD, hb]; rfl
    rw [this, ej]
    unfold seqAt
    rw [ej]
  · rw [hlen]
    cases ls with
    | nil => exact absurd rfl hne
    | cons => simp
  · rw [hlen]
    simp only [List.size_toArray]
    have : (catFrom (fun j => seqAt s.heap (ls.getD j 0)) 0 ls.length).size = xss.flatten.length := (hcl.trans Array.length_toList).symm
    omega
  · rw [hlen] at hr
    have hv : Vals (zs ++ xss.flatten) (itz ++ (catFrom (fun j => seqAt s.heap (ls.getD j 0)) 0 ls.length).toList) := rz.append hcat
    refine ⟨.ref p, upd H p (.lst (zs ++ xss.flatten)), I.laid hk hp' ⟨by rw [List.length_append]; exact hsz, _, n', hv, ?_⟩, rfl, q p (I.hok.fresh hp')⟩
    rw [hr]
    congr 3
    apply Array.ext'
    simp
end
end L2

namespace Sw
/-! ties as (one, other, price); directed edges likewise: (a, b, c): from a one goes to b for c -/
abbrev T3 := Nat × Nat × Nat
/-- a way from v to the goal g with k steps for c -/
inductive Way (E : List T3) (g : Nat) : Nat → Nat → Nat → Prop
  | nil : Way E g g 0 0
  | cons {a b p k c : Nat} : (a, b, p) ∈ E → Way E g b k c → Way E g a (k + 1) (p + c)
abbrev Dist := List (Option Nat)
def at? (d : Dist) (v : Nat) : Option Nat := (d[v]?).getD none
/-- one relaxing -/
def relax (d : Dist) (e : T3) : Dist :=
  match at? d e.2.1 with
  | none => d
  | some y => match at? d e.1 with
    | none => d.set e.1 (some (y + e.2.2))
    | some x => if y + e.2.2 < x then d.set e.1 (some (y + e.2.2)) else d
def roundOf (L : List T3) (d : Dist) : Dist := L.foldl relax d
def start (n g : Nat) : Dist := (List.replicate n none).set g (some 0)
def rounds (L : List T3) : Nat → Dist → Dist
  | 0, d => d
  | k + 1, d => rounds L k (roundOf L d)
theorem relax_len (d : Dist) (e : T3) : (relax d e).length = d.length := by
  unfold relax
  split
  · rfl
  · split
    · simp
    · split <;> simp
theorem round_len (L : List T3) : ∀ d, (roundOf L d).length = d.length := by
  induction L with
  | nil => intro d; rfl
  | cons e L ih => intro d; show (roundOf L (relax d e)).length = _; rw [ih, relax_len]
theorem at_set (d : Dist) (v u : Nat) (x : Option Nat) (h : v < d.length) : at? (d.set v x) u = if u = v then x else at? d u := by
  unfold at?
  rw [List.getElem?_set]
  by_cases e : v = u
  · subst e; simp [h]
  · simp [e, Ne.symm e]
/-- le on Option with none the top -/
def Le (x y : Option Nat) : Prop := ∀ c, y = some c → ∃ c', x = some c' ∧ c' ≤ c
theorem Le.refl (x : Option Nat) : Le x x := fun c h => ⟨c, h, Nat.le_refl _⟩
theorem Le.trans {x y z : Option Nat} (h : Le x y) (h' : Le y z) : Le x z := fun c e => by
  obtain ⟨c1, e1, l1⟩ := h' c e
  obtain ⟨c2, e2, l2⟩ := h c1 e1
  exact ⟨c2, e2, Nat.le_trans l2 l1⟩
theorem relax_le (d : Dist) (e : T3) (hl : e.1 < d.length) (v : Nat) : Le (at? (relax d e) v) (at? d v) := by
  unfold relax
  split
  · exact Le.refl _
  · rename_i y hy
    split
    · rename_i hx
      rw [at_set _ _ _ _ hl]
      split
      · rename_i ev; subst ev; intro c hc; rw [hx] at hc; cases hc
      · exact Le.refl _
    · rename_i x hx
      split
      · rename_i lt
        rw [at_set _ _ _ _ hl]
        split
        · rename_i ev; subst ev; intro c hc; rw [hx] at hc; cases hc; exact ⟨_, rfl, Nat.le_of_lt lt⟩
        · exact Le.refl _
      · exact Le.refl _
theorem relax_does (d : Dist) (e : T3) (hl : e.1 < d.length) {y : Nat} (hy : at? d e.2.1 = some y) : Le (at? (relax d e) e.1) (some (y + e.2.2)) := by
  unfold relax
  rw [hy]
  simp only
  split
  · rw [at_set _ _ _ _ hl, if_pos rfl]; exact Le.refl _
  · rename_i x hx
    split
    · rw [at_set _ _ _ _ hl, if_pos rfl]; exact Le.refl _
    · rename_i nl
      intro c hc; cases hc; exact ⟨x, hx, by omega⟩
theorem round_le (L : List T3) : ∀ (d : Dist), (∀ e ∈ L, e.1 < d.length) → ∀ v, Le (at? (roundOf L d) v) (at? d v) := by
  induction L with
  | nil => intro d _ v; exact Le.refl _
  | cons e L ih =>
    intro d h v
    have h1 := relax_le d e (h e List.mem_cons_self) v
    have h2 := ih (relax d e) (fun e' m => by rw [relax_len]; exact h e' (List.mem_cons_of_mem _ m)) v
    exact Le.trans h2 h1
theorem round_does (L : List T3) : ∀ (d : Dist), (∀ e ∈ L, e.1 < d.length) → ∀ e ∈ L, ∀ y, at? d e.2.1 = some y → Le (at? (roundOf L d) e.1) (some (y + e.2.2)) := by
  induction L with
  | nil => intro d _ e m; cases m
  | cons e0 L ih =>
    intro d h e m y hy
    have hr : ∀ e ∈ L, e.1 < (relax d e0).length := fun e' m => by rw [relax_len]; exact h e' (List.mem_cons_of_mem _ m)
    have h1 := relax_le d e0 (h e0 List.mem_cons_self)
    rcases List.mem_cons.mp m with q | q
    · subst q
      have := relax_does d e (h e List.mem_cons_self) hy
      exact Le.trans (round_le L _ hr e.1) this
    · obtain ⟨y', e1, l1⟩ := h1 e.2.1 y hy
      obtain h2 := ih (relax d e0) hr e q y' e1
      intro c hc
      cases hc
      obtain ⟨c', e2, l2⟩ := h2 _ rfl
      exact ⟨c', e2, by omega⟩
/-- soundness -/
def Sound (E : List T3) (g : Nat) (d : Dist) : Prop := ∀ v c, at? d v = some c → ∃ k, Way E g v k c
theorem relax_sound {E : List T3} {g : Nat} {d : Dist} {e : T3} (he : e ∈ E) (hl : e.1 < d.length) (s : Sound E g d) : Sound E g (relax d e) := by
  intro v c hv
  unfold relax at hv
  split at hv
  · exact s v c hv
  · rename_i y hy
    obtain ⟨k, wk⟩ := s _ _ hy
    have ws : ∃ k, Way E g e.1 k (y + e.2.2) := ⟨k + 1, by rw [Nat.add_comm y]; exact Way.cons he wk⟩
    split at hv
    · rw [at_set _ _ _ _ hl] at hv
      split at hv
      · rename_i ev; subst ev; cases hv; exact ws
      · exact s v c hv
    · split at hv
      · rw [at_set _ _ _ _ hl] at hv
        split at hv
        · rename_i ev; subst ev; cases hv; exact ws
        · exact s v c hv
      · exact s v c hv
theorem round_sound {E : List T3} {g : Nat} (L : List T3) : ∀ (d : Dist), (∀ e ∈ L, e ∈ E) → (∀ e ∈ L, e.1 < d.length) → Sound E g d → Sound E g (roundOf L d) := by
  induction L with
  | nil => intro d _ _ s; exact s
  | cons e L ih =>
    intro d h1 h2 s
    exact ih (relax d e) (fun e' m => h1 e' (List.mem_cons_of_mem _ m)) (fun e' m => by rw [relax_len]; exact h2 e' (List.mem_cons_of_mem _ m)) (relax_sound (h1 e List.mem_cons_self) (h2 e List.mem_cons_self) s)
/-- below every way of at most k steps -/
def Below (E : List T3) (g k : Nat) (d : Dist) : Prop := ∀ v j c, j ≤ k → Way E g v j c → Le (at? d v) (some c)
theorem round_below {E : List T3} {g k : Nat} (L : List T3) (d : Dist) (h1 : ∀ e ∈ E, e ∈ L) (h2 : ∀ e ∈ L, e.1 < d.length) (b : Below E g k d) : Below E g (k + 1) (roundOf L d) := by
  intro v j c hj w
  cases w with
  | nil => exact Le.trans (round_le L d h2 _) (b _ 0 0 (Nat.zero_le _) Way.nil)
  | @cons _ u p j' c' he w' =>
    obtain ⟨y, e1, l1⟩ := b u j' c' (by omega) w' _ rfl
    obtain ⟨z, e2, l2⟩ := round_does L d h2 _ (h1 _ he) y e1 _ rfl
    intro c2 hc2
    cases hc2
    refine ⟨z, e2, ?_⟩
    simp only at l2
    omega
theorem rounds_len (L : List T3) : ∀ k d, (rounds L k d).length = d.length := by
  intro k
  induction k with
  | zero => intro d; rfl
  | succ k ih => intro d; show (rounds L k (roundOf L d)).length = _; rw [ih, round_len]
theorem rounds_ok {E : List T3} {g : Nat} (L : List T3) (h0 : ∀ e, e ∈ E ↔ e ∈ L) : ∀ (k j : Nat) (d : Dist), (∀ e ∈ L, e.1 < d.length) → Sound E g d → Below E g j d → Sound E g (rounds L k d) ∧ Below E g (j + k) (rounds L k d) := by
  intro k
  induction k with
  | zero => intro j d _ s b; exact ⟨s, b⟩
  | succ k ih =>
    intro j d h s b
    have := ih (j + 1) (roundOf L d) (fun e m => by rw [round_len]; exact h e m) (round_sound L d (fun e m => (h0 e).mpr m) h s) (round_below L d (fun e m => (h0 e).mp m) h b)
    rw [show j + (k + 1) = j + 1 + k by omega]
    exact this
theorem rounds_succ (L : List T3) : ∀ k d, rounds L (k + 1) d = roundOf L (rounds L k d) := by
  intro k
  induction k with
  | zero => intro d; rfl
  | succ k ih => intro d; show rounds L (k + 1) (roundOf L d) = _; rw [ih]; rfl
/-! a way without a house twice -/
/-- no more than n different numbers below n -/
theorem nodup_le : ∀ (n : Nat) (l : List Nat), l.Nodup → (∀ x ∈ l, x < n) → l.length ≤ n := by
  intro n
  induction n with
  | zero =>
    intro l _ h
    cases l with
    | nil => simp
    | cons a l => exact absurd (h a List.mem_cons_self) (by omega)
  | succ n ih =>
    intro l nd h
    have h1 := ih (l.erase n) (nd.erase _) (fun x m => by
      have := h x (List.mem_of_mem_erase m)
      have hne : x ≠ n := fun q => by
        subst q
        exact (List.Nodup.not_mem_erase nd) m
      omega)
    have h2 : l.length ≤ (l.erase n).length + 1 := by
      rw [List.length_erase]
      split <;> omega
    omega
/-- the houses of a way (the goal left out) -/
inductive WayL (E : List T3) (g : Nat) : Nat → List Nat → Nat → Prop
  | nil : WayL E g g [] 0
  | cons {a b p c : Nat} {l : List Nat} : (a, b, p) ∈ E → WayL E g b l c → WayL E g a (a :: l) (p + c)
theorem Way.toL {E : List T3} {g v k c : Nat} (w : Way E g v k c) : ∃ l, WayL E g v l c ∧ l.length = k := by
  induction w with
  | nil => exact ⟨[], .nil, rfl⟩
  | cons he _ ih => obtain ⟨l, w, e⟩ := ih; exact ⟨_, .cons he w, by simp [e]⟩
theorem WayL.toW {E : List T3} {g v c : Nat} {l : List Nat} (w : WayL E g v l c) : Way E g v l.length c := by
  induction w with
  | nil => exact .nil
  | cons he _ ih => exact .cons he ih
/-- from a house on the way on -/
theorem WayL.from {E : List T3} {g v c : Nat} {l : List Nat} (w : WayL E g v l c) (nd : l.Nodup) : ∀ u ∈ l, ∃ l' c', WayL E g u l' c' ∧ c' ≤ c ∧ l'.Nodup ∧ ∀ x ∈ l', x ∈ l := by
  induction w with
  | nil => intro u m; cases m
  | @cons a b p c l he w ih =>
    intro u m
    rcases List.mem_cons.mp m with q | q
    · subst q; exact ⟨_, _, .cons he w, Nat.le_refl _, nd, fun x m => m⟩
    · obtain ⟨l', c', w', le, nd', sub⟩ := ih (List.nodup_cons.mp nd).2 u q
      exact ⟨l', c', w', by omega, nd', fun x m => List.mem_cons_of_mem _ (sub x m)⟩
theorem WayL.simple {E : List T3} {g v c : Nat} {l : List Nat} (w : WayL E g v l c) : ∃ l' c', WayL E g v l' c' ∧ c' ≤ c ∧ l'.Nodup ∧ g ∉ l' := by
  induction w with
  | nil => exact ⟨[], 0, .nil, Nat.le_refl _, List.nodup_nil, by simp⟩
  | @cons a b p c l he w ih =>
    obtain ⟨l', c', w', le, nd, ng⟩ := ih
    by_cases hg : a = g
    · subst hg; exact ⟨[], 0, .nil, Nat.zero_le _, List.nodup_nil, by simp⟩
    · by_cases ha : a ∈ l'
      · obtain ⟨l2, c2, w2, le2, nd2, sub⟩ := w'.from nd a ha
        exact ⟨l2, c2, w2, by omega, nd2, fun m => ng (sub _ m)⟩
      · exact ⟨a :: l', p + c', .cons he w', by omega, List.nodup_cons.mpr ⟨ha, nd⟩, fun m => by
          rcases List.mem_cons.mp m with q | q
          · exact hg q.symm
          · exact ng q⟩
theorem WayL.lt {E : List T3} {g v c n : Nat} {l : List Nat} (w : WayL E g v l c) (hE : ∀ e ∈ E, e.1 < n) : ∀ x ∈ l, x < n := by
  induction w with
  | nil => intro x m; cases m
  | cons he _ ih =>
    intro x m
    rcases List.mem_cons.mp m with q | q
    · subst q; exact hE _ he
    · exact ih x q
theorem way_short {E : List T3} {g v k c n : Nat} (hE : ∀ e ∈ E, e.1 < n) (w : Way E g v k c) : ∃ k' c', k' ≤ n ∧ c' ≤ c ∧ Way E g v k' c' := by
  obtain ⟨l, wl, _⟩ := w.toL
  obtain ⟨l', c', w', le, nd, _⟩ := wl.simple
  exact ⟨l'.length, c', nodup_le n l' nd (w'.lt hE), le, w'.toW⟩
/-- what the list of least prices is -/
structure IsFar (E : List T3) (n g : Nat) (d : Dist) : Prop where
  len : d.length = n
  way : Sound E g d
  least : ∀ v k c, Way E g v k c → Le (at? d v) (some c)
theorem start_at (n g v : Nat) (hg : g < n) : at? (start n g) v = if v = g then some 0 else none := by
  unfold start
  rw [at_set _ _ _ _ (by simpa using hg)]
  split
  · rfl
  · unfold at?
    rw [List.getElem?_replicate]
    split <;> rfl
theorem far_is {E : List T3} {n g : Nat} (L : List T3) (h0 : ∀ e, e ∈ E ↔ e ∈ L) (hE : ∀ e ∈ E, e.1 < n) (hg : g < n) : IsFar E n g (rounds L n (start n g)) := by
  have hs : (start n g).length = n := by simp [start]
  have h := rounds_ok (E := E) (g := g) L h0 n 0 (start n g) (fun e m => by rw [hs]; exact hE e ((h0 e).mpr m))
    (fun v c h => by
      rw [start_at _ _ _ hg] at h
      split at h
      · rename_i q; subst q; cases h; exact ⟨0, .nil⟩
      · cases h)
    (fun v j c hj w => by
      have : j = 0 := by omega
      subst this
      cases w
      rw [start_at _ _ _ hg, if_pos rfl]
      exact Le.refl _)
  refine ⟨by rw [rounds_len, hs], h.1, fun v k c w => ?_⟩
  obtain ⟨k', c', hk, hc, w'⟩ := way_short hE w
  obtain ⟨z, e, l⟩ := h.2 v k' c' (by omega) w' _ rfl
  intro c2 e2
  cases e2
  exact ⟨z, e, by omega⟩
theorem far_one {E : List T3} {n g : Nat} {d d' : Dist} (h : IsFar E n g d) (h' : IsFar E n g d') : d = d' := by
  have key : ∀ v, at? d v = at? d' v := fun v => by
    cases e : at? d v with
    | none =>
      cases e' : at? d' v with
      | none => rfl
      | some c' =>
        obtain ⟨k, w⟩ := h'.way _ _ e'
        obtain ⟨z, ez, _⟩ := h.least _ _ _ w _ rfl
        rw [e] at ez; cases ez
    | some c =>
      obtain ⟨k, w⟩ := h.way _ _ e
      obtain ⟨z, ez, lz⟩ := h'.least _ _ _ w _ rfl
      obtain ⟨k2, w2⟩ := h'.way _ _ ez
      obtain ⟨z2, ez2, lz2⟩ := h.least _ _ _ w2 _ rfl
      rw [e] at ez2; cases ez2
      rw [ez]
      congr 1
      omega
  refine List.ext_getElem? fun i => ?_
  by_cases hi : i < n
  · have a1 : i < d.length := by rw [h.len]; exact hi
    have a2 : i < d'.length := by rw [h'.len]; exact hi
    have := key i
    unfold at? at this
    rw [List.getElem?_eq_getElem a1, List.getElem?_eq_getElem a2] at this ⊢
    simpa using this
  · rw [List.getElem?_eq_none (by rw [h.len]; omega), List.getElem?_eq_none (by rw [h'.len]; omega)]
theorem far_cong {E E' : List T3} {n g : Nat} {d : Dist} (he : ∀ e, e ∈ E ↔ e ∈ E') (h : IsFar E n g d) : IsFar E' n g d := by
  have tr : ∀ {A B : List T3}, (∀ e, e ∈ A → e ∈ B) → ∀ {v k c}, Way A g v k c → Way B g v k c := by
    intro A B hs v k c w
    induction w with
    | nil => exact .nil
    | cons m _ ih => exact .cons (hs _ m) ih
  exact ⟨h.len, fun v c e => by obtain ⟨k, w⟩ := h.way v c e; exact ⟨k, tr (fun e m => (he e).mp m) w⟩, fun v k c w => h.least v k c (tr (fun e m => (he e).mpr m) w)⟩
end Sw
namespace Sw
/-- u is a next house of h: just so much nearer -/
def Cand (E : List T3) (d : Dist) (h u : Nat) : Prop := ∃ c y, (h, u, c) ∈ E ∧ at? d u = some y ∧ at? d h = some (y + c)
def IsNext (E : List T3) (d : Dist) (g h : Nat) : Option Nat → Prop
  | none => h = g ∨ at? d h = none
  | some u => h ≠ g ∧ at? d h ≠ none ∧ Cand E d h u ∧ ∀ v, Cand E d h v → u ≤ v
theorem next_one {E : List T3} {d : Dist} {g h : Nat} : ∀ {x y : Option Nat}, IsNext E d g h x → IsNext E d g h y → x = y
  | none, none, _, _ => rfl
  | none, some u, h1, h2 => by
    rcases h1 with q | q
    · exact absurd q h2.1
    · exact absurd q h2.2.1
  | some u, none, h1, h2 => by
    rcases h2 with q | q
    · exact absurd q h1.1
    · exact absurd q h1.2.1
  | some u, some v, h1, h2 => by
    have a := h1.2.2.2 v h2.2.2.1
    have b := h2.2.2.2 u h1.2.2.1
    rw [Nat.le_antisymm a b]
theorem cand_cong {E E' : List T3} (he : ∀ e, e ∈ E ↔ e ∈ E') {d : Dist} {h u : Nat} : Cand E d h u ↔ Cand E' d h u :=
  ⟨fun ⟨c, y, a, b⟩ => ⟨c, y, (he _).mp a, b⟩, fun ⟨c, y, a, b⟩ => ⟨c, y, (he _).mpr a, b⟩⟩
theorem next_cong {E E' : List T3} (he : ∀ e, e ∈ E ↔ e ∈ E') {d : Dist} {g h : Nat} : ∀ {x : Option Nat}, IsNext E d g h x → IsNext E' d g h x
  | none, a => a
  | some u, a => ⟨a.1, a.2.1, (cand_cong he).mp a.2.2.1, fun v hv => a.2.2.2 v ((cand_cong he).mpr hv)⟩
theorem far_goal {E : List T3} {n g : Nat} {d : Dist} (f : IsFar E n g d) : at? d g = some 0 := by
  obtain ⟨c, e, l⟩ := f.least g 0 0 .nil 0 rfl
  rw [e]
  congr 1
  omega
theorem cand_ex {E : List T3} {n g h c : Nat} {d : Dist} (f : IsFar E n g d) (hg : h ≠ g) (hc : at? d h = some c) : ∃ u, Cand E d h u := by
  obtain ⟨k, w⟩ := f.way h c hc
  cases w with
  | nil => exact absurd rfl hg
  | @cons _ u p k' c' he w' =>
    obtain ⟨y, ey, ly⟩ := f.least u k' c' w' _ rfl
    obtain ⟨k2, w2⟩ := f.way u y ey
    obtain ⟨z, ez, lz⟩ := f.least h (k2 + 1) (p + y) (.cons he w2) _ rfl
    rw [hc] at ez
    cases ez
    refine ⟨u, p, y, he, ey, ?_⟩
    rw [hc]
    congr 1
    omega
theorem near_some {E : List T3} {n g h u c : Nat} {d : Dist} (f : IsFar E n g d) (hs : ∀ a b c, (a, b, c) ∈ E → (b, a, c) ∈ E) (he : (h, u, c) ∈ E) (hh : at? d h ≠ none) : ∃ y, at? d u = some y := by
  cases e : at? d h with
  | none => exact absurd e hh
  | some z =>
    obtain ⟨k, w⟩ := f.way h z e
    obtain ⟨y, ey, _⟩ := f.least u (k + 1) (c + z) (.cons (hs _ _ _ he) w) _ rfl
    exact ⟨y, ey⟩
/-- whether a neighbour (house, price) is just so much nearer -/
def test (d : Dist) (h : Nat) (q : Nat × Nat) : Bool := match at? d q.1 with
  | some y => decide (at? d h = some (y + q.2))
  | none => false
def candL (d : Dist) (h : Nat) (L : List (Nat × Nat)) : List Nat := (L.filter (test d h)).map (·.1)
theorem candL_mem {E : List T3} {d : Dist} {h : Nat} {L : List (Nat × Nat)} (hL : ∀ u c, (u, c) ∈ L ↔ (h, u, c) ∈ E) (u : Nat) : u ∈ candL d h L ↔ Cand E d h u := by
  unfold candL
  rw [List.mem_map]
  constructor
  · rintro ⟨q, hq, rfl⟩
    obtain ⟨m, t⟩ := List.mem_filter.mp hq
    unfold test at t
    cases e : at? d q.1 with
    | none => rw [e] at t; cases t
    | some y =>
      rw [e] at t
      exact ⟨q.2, y, (hL _ _).mp m, e, of_decide_eq_true t⟩
  · rintro ⟨c, y, m, e, t⟩
    refine ⟨(u, c), List.mem_filter.mpr ⟨(hL _ _).mpr m, ?_⟩, rfl⟩
    unfold test
    rw [e]
    exact decide_eq_true t
def nbr (ts : List T3) (h : Nat) : List (Nat × Nat) := ts.flatMap fun e => (if e.1 = h then [(e.2.1, e.2.2)] else []) ++ (if e.2.1 = h then [(e.1, e.2.2)] else [])
theorem nbr_mem (ts : List T3) (h u c : Nat) : (u, c) ∈ nbr ts h ↔ ((h, u, c) ∈ ts ∨ (u, h, c) ∈ ts) := by
  unfold nbr
  rw [List.mem_flatMap]
  constructor
  · rintro ⟨⟨a, b, p⟩, m, q⟩
    rcases List.mem_append.mp q with q | q
    · split at q
      · rename_i e; simp at q e; obtain ⟨rfl, rfl⟩ := q; subst e; exact .inl m
      · cases q
    · split at q
      · rename_i e; simp at q e; obtain ⟨rfl, rfl⟩ := q; subst e; exact .inr m
      · cases q
  · rintro (m | m)
    · exact ⟨_, m, by simp⟩
    · exact ⟨_, m, by simp⟩
theorem nbr_snoc (ts : List T3) (e : T3) (h : Nat) : nbr (ts ++ [e]) h = nbr ts h ++ ((if e.1 = h then [(e.2.1, e.2.2)] else []) ++ (if e.2.1 = h then [(e.1, e.2.2)] else [])) := by
  unfold nbr
  rw [List.flatMap_append]
  simp
theorem nbr_len (ts : List T3) (h : Nat) : (nbr ts h).length ≤ 2 * ts.length := by
  induction ts with
  | nil => simp [nbr]
  | cons e ts ih =>
    have : nbr (e :: ts) h = ((if e.1 = h then [(e.2.1, e.2.2)] else []) ++ (if e.2.1 = h then [(e.1, e.2.2)] else [])) ++ nbr ts h := rfl
    rw [this, List.length_append, List.length_append]
    have h1 : (if e.1 = h then [(e.2.1, e.2.2)] else []).length ≤ 1 := by split <;> simp
    have h2 : (if e.2.1 = h then [(e.1, e.2.2)] else []).length ≤ 1 := by split <;> simp
    simp only [List.length_cons]
    omega
theorem candL_snoc (d : Dist) (h : Nat) (L : List (Nat × Nat)) (q : Nat × Nat) : candL d h (L ++ [q]) = candL d h L ++ (if test d h q = true then [q.1] else []) := by
  unfold candL
  rw [List.filter_append, List.map_append]
  congr 1
  simp only [List.filter_cons, List.filter_nil]
  split <;> rfl
theorem candL_len (d : Dist) (h : Nat) (L : List (Nat × Nat)) : (candL d h L).length ≤ L.length := by
  unfold candL
  rw [List.length_map]
  exact List.length_filter_le _ _
end Sw
namespace Sw
def fl1 (ts : List T3) (h : Nat) : List (Nat × Nat) := ts.flatMap fun e => if e.1 = h then [(e.2.1, e.2.2)] else []
def fl2 (ts : List T3) (h : Nat) : List (Nat × Nat) := ts.flatMap fun e => if e.2.1 = h then [(e.1, e.2.2)] else []
theorem fl1_snoc (ts : List T3) (e : T3) (h : Nat) : fl1 (ts ++ [e]) h = fl1 ts h ++ (if e.1 = h then [(e.2.1, e.2.2)] else []) := by
  unfold fl1; rw [List.flatMap_append]; simp
theorem fl2_snoc (ts : List T3) (e : T3) (h : Nat) : fl2 (ts ++ [e]) h = fl2 ts h ++ (if e.2.1 = h then [(e.1, e.2.2)] else []) := by
  unfold fl2; rw [List.flatMap_append]; simp
theorem fl_mem (ts : List T3) (h u c : Nat) : (u, c) ∈ fl1 ts h ++ fl2 ts h ↔ ((h, u, c) ∈ ts ∨ (u, h, c) ∈ ts) := by
  rw [List.mem_append]
  unfold fl1 fl2
  rw [List.mem_flatMap, List.mem_flatMap]
  constructor
  · rintro (⟨⟨a, b, p⟩, m, q⟩ | ⟨⟨a, b, p⟩, m, q⟩)
    · split at q
      · rename_i e; simp at q e; obtain ⟨rfl, rfl⟩ := q; subst e; exact .inl m
      · cases q
    · split at q
      · rename_i e; simp at q e; obtain ⟨rfl, rfl⟩ := q; subst e; exact .inr m
      · cases q
  · rintro (m | m)
    · exact .inl ⟨_, m, by simp⟩
    · exact .inr ⟨_, m, by simp⟩
theorem fl1_len (ts : List T3) (h : Nat) : (fl1 ts h).length ≤ ts.length := by
  induction ts with
  | nil => simp [fl1]
  | cons e ts ih =>
    have : fl1 (e :: ts) h = (if e.1 = h then [(e.2.1, e.2.2)] else []) ++ fl1 ts h := rfl
    rw [this, List.length_append]
    have h1 : (if e.1 = h then [(e.2.1, e.2.2)] else []).length ≤ 1 := by split <;> simp
    simp only [List.length_cons]
    omega
theorem fl2_len (ts : List T3) (h : Nat) : (fl2 ts h).length ≤ ts.length := by
  induction ts with
  | nil => simp [fl2]
  | cons e ts ih =>
    have : fl2 (e :: ts) h = (if e.2.1 = h then [(e.1, e.2.2)] else []) ++ fl2 ts h := rfl
    rw [this, List.length_append]
    have h1 : (if e.2.1 = h then [(e.1, e.2.2)] else []).length ≤ 1 := by split <;> simp
    simp only [List.length_cons]
    omega
end Sw
namespace Sw
/-- the told way, house by house -/
inductive WayTo (E : List T3) (d : Dist) (g : Nat) : Nat → List Nat → Prop
  | here : WayTo E d g g [g]
  | step {h u : Nat} {l : List Nat} : IsNext E d g h (some u) → WayTo E d g u l → WayTo E d g h (h :: l)
theorem wayto_one {E : List T3} {d : Dist} {g h : Nat} {l l' : List Nat} (a : WayTo E d g h l) (b : WayTo E d g h l') : l = l' := by
  induction a generalizing l' with
  | here =>
    cases b with
    | here => rfl
    | step i _ => exact absurd rfl i.1
  | step i _ ih =>
    cases b with
    | here => exact absurd rfl i.1
    | step j r =>
      have e := next_one i j
      cases e
      rw [ih r]
theorem way_cost {E : List T3} {g v k c : Nat} (h : ∀ e ∈ E, e.2.2 ≤ 9) (w : Way E g v k c) : c ≤ 9 * k := by
  induction w with
  | nil => exact Nat.le_refl _
  | cons he _ ih =>
    have := h _ he
    simp only at this
    omega
theorem far_small {E : List T3} {n g v c : Nat} {d : Dist} (f : IsFar E n g d) (hE : ∀ e ∈ E, e.1 < n) (h9 : ∀ e ∈ E, e.2.2 ≤ 9) (e : at? d v = some c) : c ≤ 9 * n := by
  obtain ⟨k, w⟩ := f.way v c e
  obtain ⟨k', c', hk, hc, w'⟩ := way_short hE w
  obtain ⟨z, ez, lz⟩ := f.least v k' c' w' _ rfl
  rw [e] at ez
  cases ez
  have := way_cost h9 w'
  have : 9 * k' ≤ 9 * n := Nat.mul_le_mul_left 9 hk
  omega
/-- all houses that a list of prices reaches, rising -/
def lotOf (n : Nat) (d : Dist) : List Nat := (List.range n).filter fun h => (at? d h).isSome
end Sw

namespace K
open PySem PySem.Spec PyProof.Rows L2
/-- all but p stands as it stood -/
def But (p : Addr) (H H' : Hp) : Prop := ∀ b o, H b = some o → b ≠ p → H' b = some o
theorem But.refl (p : Addr) (H : Hp) : But p H H := fun _ _ e _ => e
theorem But.trans {p : Addr} {H H1 H2 : Hp} (a : But p H H1) (b : But p H1 H2) : But p H H2 := fun c o e hc => b c o (a c o e hc) hc
theorem But.of_same {p : Addr} {H H' : Hp} (s : Same H H') : But p H H' := fun b o e _ => s b o e
theorem But.put {p : Addr} {H : Hp} {o : HO} : But p H (upd H p o) := fun b u e hb => by rw [upd_ne hb]; exact e
theorem same_upd {H : Hp} {p : Addr} {o : HO} (h : H p = none) : Same H (upd H p o) := fun b x e => by
  rw [upd_ne (ne_of_none e h)]
  exact e
/-- the box of the draws at p, its list of cells at q -/
def BoxAt (H : Hp) (p q : Addr) : Prop := ∃ (ns : List Int) (i t s : Int), H p = some (.lst [.ref q, .int i, .int t, .int s]) ∧ H q = some (.lst (ns.map V.int)) ∧ 0 ≤ i ∧ i ≤ ns.length ∧ 0 ≤ s ∧ s < 2147483549 ∧ ns.length ≤ 63
theorem BoxAt.ne {H : Hp} {p q : Addr} (h : BoxAt H p q) : p ≠ q := by
  obtain ⟨ns, i, t, s, h1, h2, _⟩ := h
  refine ne_of h1 h2 fun e => ?_
  cases ns with
  | nil => cases e
  | cons n ns => injection e with e; injection e with e1 e2; cases e1
theorem BoxAt.at {H H' : Hp} {p q : Addr} (h : BoxAt H p q) (h1 : ∀ o, H p = some o → H' p = some o) (h2 : ∀ o, H q = some o → H' q = some o) : BoxAt H' p q := by
  obtain ⟨ns, i, t, s, e1, e2, r⟩ := h
  exact ⟨ns, i, t, s, h1 _ e1, h2 _ e2, r⟩
theorem BoxAt.same {H H' : Hp} {p q : Addr} (h : BoxAt H p q) (s : Same H H') : BoxAt H' p q := h.at (fun o e => s _ o e) (fun o e => s _ o e)
theorem BoxAt.p_some {H : Hp} {p q : Addr} (h : BoxAt H p q) : ∃ o, H p = some o := by
  obtain ⟨ns, i, t, s, e1, e2, r⟩ := h
  exact ⟨_, e1⟩
theorem BoxAt.q_some {H : Hp} {p q : Addr} (h : BoxAt H p q) : ∃ o, H q = some o := by
  obtain ⟨ns, i, t, s, e1, e2, r⟩ := h
  exact ⟨_, e2⟩
/-- another object than the box's own two is written -/
theorem BoxAt.put {H : Hp} {p q l : Addr} {o : HO} (h : BoxAt H p q) (hp : l ≠ p) (hq : l ≠ q) : BoxAt (upd H l o) p q :=
  h.at (fun o e => by rw [upd_ne (Ne.symm hp)]; exact e) (fun o e => by rw [upd_ne (Ne.symm hq)]; exact e)
theorem BoxAt.putN {H : Hp} {p q l : Addr} {o : HO} (h : BoxAt H p q) (hl : H l = none) : BoxAt (upd H l o) p q := h.same (same_upd hl)
theorem fmod_le {a n : Int} (hn : 0 < n) : 0 ≤ a.fmod n ∧ a.fmod n < n := by
  rw [Int.fmod_eq_emod_of_nonneg _ (Int.le_of_lt hn)]
  exact ⟨Int.emod_nonneg _ (by omega), Int.emod_lt_of_pos _ hn⟩
/-- _law_box(script) -/
def spBox (K : PySem.W.Frag) : Sp := fun vs H Q _ => ∃ (a : Addr) (ns : List Int), vs = [.ref a] ∧ SqL K H a (ns.map V.int) ∧ ns.length ≤ 63 ∧ ∀ (p q : Addr) (H' : Hp), H p = none → H q = none → BoxAt H' p q → Same H H' → Q (.ref p) H'
/-- _law_take(box, sides): a number below sides; the box is a box again -/
def spTake : Sp := fun vs H Q _ => ∃ (p q : Addr) (n : Int), vs = [.ref p, .int n] ∧ BoxAt H p q ∧ 0 < n ∧ n < 1073741824 ∧ ∀ (r : Int) (H' : Hp), 0 ≤ r → r < n → BoxAt H' p q → But p H H' → Q (.int r) H'
theorem atI0 {α : Type} {xs : List α} {i : Int} {v : α} (h0 : 0 ≤ i) (h : xs[i.toNat]? = some v) : atI xs i = some v := by
  have := atI_nat (j := i.toNat) h
  rwa [Int.toNat_of_nonneg h0] at this
end K
namespace K
open PySem PySem.Spec PyProof.Rows L2
/-- None, bools, ints, texts -/
def flat : V → Bool
  | .non | .bl _ | .int _ | .str _ => true
  | _ => false
/-- the same data, of less than n levels -/
def Eqv : Nat → Hp → V → V → Prop
  | 0, _, _, _ => False
  | n + 1, H, x, y => (x = y ∧ flat x = true) ∨ ∃ (a b : Addr) (xs ys : List V), x = .ref a ∧ y = .ref b ∧ ((H a = some (.lst xs) ∧ H b = some (.lst ys)) ∨ (H a = some (.tup xs) ∧ H b = some (.tup ys))) ∧ xs.length = ys.length ∧ xs.length ≤ 1000 ∧
      ∀ (i : Nat) (u v : V), xs[i]? = some u → ys[i]? = some v → Eqv n H u v
theorem Eqv.same {H H' : Hp} (s : Same H H') : ∀ {n : Nat} {x y : V}, Eqv n H x y → Eqv n H' x y
  | n + 1, x, y, h => by
    rcases h with h | ⟨a, b, xs, ys, e1, e2, h, hl, hz, hi⟩
    · exact .inl h
    · refine .inr ⟨a, b, xs, ys, e1, e2, ?_, hl, hz, fun i u v hu hv => (hi i u v hu hv).same s⟩
      rcases h with ⟨h1, h2⟩ | ⟨h1, h2⟩
      · exact .inl ⟨s _ _ h1, s _ _ h2⟩
      · exact .inr ⟨s _ _ h1, s _ _ h2⟩
def spSame (n : Nat) : Sp := fun vs H Q _ => ∃ (x y : V), vs = [x, y] ∧ Eqv n H x y ∧ ∀ H', Same H H' → Q (.bl true) H'
theorem kit2 {K : PySem.W.Frag} {t T U : String} {b c : Bool} (h : kitB t T = some b) (h2 : kitB t U = some c) : PySem.W.kitAny K (.type t) [.type T, .type U] = some (b || c) := by
  refine kitAny_cons (kit_ty h) (fun e => ?_) (fun e => by rw [e]; rfl)
  subst e
  refine kitAny_cons (kit_ty h2) (fun e => ?_) (fun e => by rw [e]; rfl)
  subst e
  exact kitAny_nil
theorem walk_zipTT {K : PySem.W.Frag} {a b : Addr} {xs ys : List V} {n : Nat} (hn : n = min xs.length ys.length) : Walk (RZ.ItzT K a b) n (fun H => SqT K H a xs ∧ SqT K H b ys) (YPair (fun i => xs[i]?) (fun i => ys[i]?)) := by
  subst hn
  refine ⟨fun i _ hi q => ?_, fun _ q => ⟨xs, ys, q.1, q.2, by omega⟩, fun i H v H' _ q y => ?_⟩
  · have h1 : i < xs.length := by omega
    have h2 : i < ys.length := by omega
    exact ⟨xs, ys, xs[i], ys[i], q.1, q.2, by simp [h1], by simp [h2]⟩
  · obtain ⟨T, x, z, h1, h2, h3, h4, h5⟩ := y
    exact ⟨T, x, z, h1, h2, h3, h4 xs q.1, h5 ys q.2⟩
theorem fnok_never {P : Program} {w : World} {K : PySem.W.Frag} {mg : Str → Option Value} {base : Heap} {f : Addr} {fd : FuncData} {ps : List Str} {sp : Sp} {k : Nat} (h : ∀ vs H Q E, ¬ sp vs H Q E) : FnOk P w K mg base CX0 k f fd ps sp :=
  ⟨fun vs H Q E q => (h _ _ _ _ q).elim, fun A outer s H args us vs Q E hr he hb hv hs => (h _ _ _ _ hs).elim⟩
end K
namespace K
open PySem PySem.Spec PyProof.Rows L2
open Sw (T3 Dist at? relax roundOf rounds)
/-- a tie as it stands in a tuple -/
def tv (e : T3) : List V := [.int (e.1 : Nat), .int (e.2.1 : Nat), .int (e.2.2 : Nat)]
/-- a list of ties -/
def TiesAt (H : Hp) (t : Addr) (ts : List T3) : Prop := ∃ as : List Addr, H t = some (.lst (as.map V.ref)) ∧ Paired (fun a e => H a = some (.tup (tv e))) as ts
theorem paired_mono {α β : Type} {R R' : α → β → Prop} (h : ∀ a b, R a b → R' a b) : ∀ {xs : List α} {ys : List β}, Paired R xs ys → Paired R' xs ys
  | _, _, .nil => .nil
  | _, _, .cons r t => .cons (h _ _ r) (paired_mono h t)
theorem paired_len {α β : Type} {R : α → β → Prop} : ∀ {xs : List α} {ys : List β}, Paired R xs ys → xs.length = ys.length
  | _, _, .nil => rfl
  | _, _, .cons r t => by simp [paired_len t]
theorem TiesAt.same {H H' : Hp} {t : Addr} {ts : List T3} (h : TiesAt H t ts) (s : Same H H') : TiesAt H' t ts := by
  obtain ⟨as, h1, h2⟩ := h
  exact ⟨as, s _ _ h1, paired_mono (fun a e q => s _ _ q) h2⟩
/-- a price or None -/
def ov : Option Nat → V
  | none => .non
  | some n => .int (n : Nat)
/-- a list of prices stands at p -/
def DistAt (H : Hp) (p : Addr) (d : Dist) : Prop := H p = some (.lst (d.map ov))
theorem at_of {d : Dist} {v : Nat} (h : v < d.length) : (d.map ov)[v]? = some (ov (at? d v)) := by
  rw [List.getElem?_map, List.getElem?_eq_getElem h]
  unfold at?
  rw [List.getElem?_eq_getElem h]
  rfl
theorem set_ov (d : Dist) (v : Nat) (x : Option Nat) : (d.map ov).set v (ov x) = (d.set v x).map ov := by rw [List.map_set]
theorem ixN_nat {n j : Nat} (h : j < n) : ixN n (j : Int) = some j := by
  unfold ixN
  rw [if_pos (by omega), if_pos (by omega), Int.toNat_natCast]
/-- the ties both ways about, tie by tie -/
def both (ts : List T3) : List T3 := ts.flatMap fun e => [e, (e.2.1, e.1, e.2.2)]
theorem both_mem (ts : List T3) (e : T3) : e ∈ both ts ↔ (e ∈ ts ∨ (e.2.1, e.1, e.2.2) ∈ ts) := by
  unfold both
  rw [List.mem_flatMap]
  constructor
  · rintro ⟨x, hx, m⟩
    simp only [List.mem_cons, List.not_mem_nil, or_false] at m
    rcases m with q | q
    · exact .inl (q ▸ hx)
    · subst q; exact .inr hx
  · rintro (h | h)
    · exact ⟨e, h, by simp⟩
    · exact ⟨_, h, by simp⟩
/-- the least prices, as they are reckoned tie by tie -/
def farD (n : Nat) (ts : List T3) (g : Nat) : Dist := rounds (both ts) n (Sw.start n g)
/-- the ties lie below n -/
def Fits (n : Nat) (ts : List T3) : Prop := ∀ e ∈ ts, e.1 < n ∧ e.2.1 < n
theorem both_lt {n : Nat} {ts : List T3} (h : Fits n ts) : ∀ e ∈ both ts, e.1 < n ∧ e.2.1 < n := fun e m => by
  rcases (both_mem ts e).mp m with q | q
  · exact h e q
  · have := h _ q
    exact ⟨this.2, this.1⟩
theorem farD_is {n g : Nat} {ts : List T3} (h : Fits n ts) (hg : g < n) : Sw.IsFar (both ts) n g (farD n ts g) := Sw.far_is (both ts) (fun _ => Iff.rfl) (fun e m => (both_lt h e m).1) hg
def spCheck : Sp := fun vs H Q _ => ∃ (n g : Nat), vs = [.int (n : Nat), .int (g : Nat)] ∧ g < n ∧ Q .non H
def spCheap : Sp := fun vs H Q _ => ∃ (p : Addr) (d : Dist) (a b c : Nat), vs = [.ref p, .int (a : Nat), .int (b : Nat), .int (c : Nat)] ∧ DistAt H p d ∧ a < d.length ∧ b < d.length ∧ ∀ H', DistAt H' p (relax d (a, b, c)) → But p H H' → Q .non H'
def spFar : Sp := fun vs H Q _ => ∃ (n g : Nat) (t : Addr) (ts : List T3), vs = [.int (n : Nat), .ref t, .int (g : Nat)] ∧ g < n ∧ n ≤ 1000 ∧ TiesAt H t ts ∧ Fits n ts ∧ ∀ p H', H p = none → Same H H' → DistAt H' p (farD n ts g) → Q (.ref p) H'
end K
namespace K
open PySem PySem.Spec PyProof.Rows L2
open Sw (T3 Dist at? relax roundOf rounds)
/-- a row of pairs of houses, below n, the lesser one first -/
def PairsV (H : Hp) (n : Nat) (xs : List V) : Prop := ∃ (as : List Addr) (ps : List (Nat × Nat)), xs = as.map V.ref ∧ Paired (fun a p => H a = some (.tup [.int (p.1 : Nat), .int (p.2 : Nat)])) as ps ∧ ∀ p ∈ ps, p.1 < p.2 ∧ p.2 < n
theorem PairsV.at {H H' : Hp} {n : Nat} {xs : List V} (h : PairsV H n xs) (k : ∀ a ys, H a = some (.tup ys) → H' a = some (.tup ys)) : PairsV H' n xs := by
  obtain ⟨as, ps, e, h1, h2⟩ := h
  exact ⟨as, ps, e, paired_mono (fun a p q => k _ _ q) h1, h2⟩
theorem PairsV.nil {H : Hp} {n : Nat} : PairsV H n [] := ⟨[], [], rfl, .nil, fun p m => by cases m⟩
theorem paired_append {α β : Type} {R : α → β → Prop} : ∀ {xs xs' : List α} {ys ys' : List β}, Paired R xs ys → Paired R xs' ys' → Paired R (xs ++ xs') (ys ++ ys')
  | _, _, _, _, .nil, s => s
  | _, _, _, _, .cons r t, s => .cons r (paired_append t s)
theorem PairsV.append {H : Hp} {n : Nat} {xs ys : List V} (h : PairsV H n xs) (h' : PairsV H n ys) : PairsV H n (xs ++ ys) := by
  obtain ⟨as, ps, rfl, h1, h2⟩ := h
  obtain ⟨as', ps', rfl, h1', h2'⟩ := h'
  refine ⟨as ++ as', ps ++ ps', by rw [List.map_append], paired_append h1 h1', fun p m => ?_⟩
  rcases List.mem_append.mp m with q | q
  · exact h2 p q
  · exact h2' p q
theorem PairsV.one {H : Hp} {n i j : Nat} {a : Addr} (h : H a = some (.tup [.int (i : Nat), .int (j : Nat)])) (h1 : i < j) (h2 : j < n) : PairsV H n [.ref a] :=
  ⟨[a], [(i, j)], rfl, .cons h .nil, fun p m => by simp at m; subst m; exact ⟨h1, h2⟩⟩
theorem PairsV.flat {H : Hp} {n : Nat} : ∀ {xss : List (List V)}, (∀ xs ∈ xss, PairsV H n xs) → PairsV H n xss.flatten
  | [], _ => PairsV.nil
  | xs :: xss, h => (h xs List.mem_cons_self).append (PairsV.flat fun ys m => h ys (List.mem_cons_of_mem _ m))
theorem flat_len {α : Type} {n : Nat} : ∀ {xss : List (List α)}, (∀ xs ∈ xss, xs.length ≤ n) → xss.flatten.length ≤ xss.length * n
  | [], _ => by simp
  | xs :: xss, h => by
    have h1 := h xs List.mem_cons_self
    have h2 := flat_len (xss := xss) fun ys m => h ys (List.mem_cons_of_mem _ m)
    rw [List.flatten_cons, List.length_append, List.length_cons, Nat.succ_mul]
    omega
/-- good ties below n -/
def Good (n : Nat) (ts : List T3) : Prop := ∀ e ∈ ts, e.1 < e.2.1 ∧ e.2.1 < n ∧ 1 ≤ e.2.2 ∧ e.2.2 ≤ 9
theorem Good.fits {n : Nat} {ts : List T3} (h : Good n ts) : Fits n ts := fun e m => by have := h e m; omega
def spPairs : Sp := fun vs H Q _ => ∃ n : Nat, vs = [.int (n : Nat)] ∧ 0 < n ∧ n ≤ 8 ∧ ∀ (p : Addr) (H' : Hp) (xs : List V), H p = none → Same H H' → H' p = some (.lst xs) → PairsV H' n xs → xs.length ≤ 64 → Q (.ref p) H'
def spShuf : Sp := fun vs H Q _ => ∃ (p q t : Addr) (xs : List V), vs = [.ref p, .ref t] ∧ BoxAt H p q ∧ t ≠ p ∧ H t = some (.lst xs) ∧ xs.length ≤ 1000 ∧ ∀ (r : Addr) (H' : Hp) (ys : List V), H r = none → BoxAt H' p q → But p H H' → H' r = some (.lst ys) → ys.Perm xs → Q (.ref r) H'
def spSome : Sp := fun vs H Q _ => ∃ (p q : Addr) (n : Nat) (o : Int), vs = [.ref p, .int (n : Nat), .int o] ∧ BoxAt H p q ∧ 0 < n ∧ n ≤ 8 ∧ ∀ (r : Addr) (H' : Hp) (ts : List T3), H r = none → BoxAt H' p q → But p H H' → TiesAt H' r ts → Good n ts → ts.length ≤ 14 → Q (.ref r) H'
end K
namespace K
open PySem PySem.Spec PyProof.Rows L2
open Sw (T3 Dist at? relax roundOf rounds)
def tupData (e : T3) : PyData := .tuple [.int (e.1 : Nat), .int (e.2.1 : Nat), .int (e.2.2 : Nat)]
def tieData (ts : List T3) : PyData := .list (ts.map tupData)
theorem dp_ties {K : PySem.W.Frag} {H : Hp} {t : Addr} {ts : List T3} (h : TiesAt H t ts) : Dp K H (.ref t) (tieData ts) := by
  obtain ⟨as, h1, h2⟩ := h
  refine .lst (SqL.of h1) ?_
  clear h1
  induction h2 with
  | nil => exact .nil
  | cons r _ ih => exact .cons (.tup (SqT.of r) (.cons (.int _) (.cons (.int _) (.cons (.int _) .nil)))) ih
theorem lay_ties (ts : List T3) : PyData.canLayAll0 (ts.map tupData) = true := by
  induction ts with
  | nil => simp [PyData.canLayAll0]
  | cons e ts ih => simp [PyData.canLayAll0, PyData.canLay0, tupData, ih]
theorem depth_ties (ts : List T3) : PyData.depthAll (ts.map tupData) ≤ 2 := by
  induction ts with
  | nil => simp [PyData.depthAll]
  | cons e ts ih =>
    have h1 : (tupData e).depth ≤ 2 := by simp [tupData, PyData.depth, PyData.depthAll]
    simp only [List.map_cons, PyData.depthAll]
    omega
theorem shaped_ties (ts : List T3) : SeqAt.shaped (tieData ts) = true := by
  unfold SeqAt.shaped tieData
  have h1 := lay_ties ts
  have h2 := depth_ties ts
  have h3 : (PyData.list (ts.map tupData)).canLay0 = true := by simpa [PyData.canLay0] using h1
  have h4 : (PyData.list (ts.map tupData)).depth ≤ 64 := by
    have e : (PyData.list (ts.map tupData)).depth = PyData.depthAll (ts.map tupData) + 1 := by simp [PyData.depth, Nat.add_comm]
    omega
  rw [h3, decide_eq_true h4]
  rfl
/-- the law's own going round -/
def swp (e : T3) : T3 := (e.2.1, e.1, e.2.2)
def lfarD (n : Nat) (ts : List T3) (g : Nat) : Dist := rounds (ts ++ ts.map swp) n (Sw.start n g)
theorem lfar_mem (ts : List T3) (e : T3) : e ∈ both ts ↔ e ∈ ts ++ ts.map swp := by
  rw [both_mem, List.mem_append, List.mem_map]
  constructor
  · rintro (h | h)
    · exact .inl h
    · exact .inr ⟨_, h, rfl⟩
  · rintro (h | ⟨x, hx, rfl⟩)
    · exact .inl h
    · exact .inr hx
theorem lfarD_is {n g : Nat} {ts : List T3} (h : Fits n ts) (hg : g < n) : Sw.IsFar (both ts) n g (lfarD n ts g) := Sw.far_is _ (lfar_mem ts) (fun e m => (both_lt h e m).1) hg
theorem far_lfar {n g : Nat} {ts : List T3} (h : Fits n ts) (hg : g < n) : lfarD n ts g = farD n ts g := Sw.far_one (lfarD_is h hg) (farD_is h hg)
def spLFar : Sp := fun vs H Q _ => ∃ (n g : Nat) (t : Addr) (ts : List T3), vs = [.int (n : Nat), .ref t, .int (g : Nat)] ∧ g < n ∧ n ≤ 1000 ∧ TiesAt H t ts ∧ ts.length ≤ 400 ∧ Fits n ts ∧ ∀ p H', H p = none → Same H H' → DistAt H' p (lfarD n ts g) → Q (.ref p) H'
theorem ov_flat (x : Option Nat) : flat (ov x) = true := by cases x <;> rfl
theorem eqv_dist {H : Hp} {a b : Addr} {d : Dist} {m : Nat} (h1 : DistAt H a d) (h2 : DistAt H b d) (hl : d.length ≤ 1000) : Eqv (m + 2) H (.ref a) (.ref b) := by
  refine .inr ⟨a, b, _, _, rfl, rfl, .inl ⟨h1, h2⟩, rfl, by rw [List.length_map]; exact hl, fun i u v hu hv => ?_⟩
  rw [hu] at hv
  cases hv
  rw [List.getElem?_map] at hu
  obtain ⟨x, _, rfl⟩ := Option.map_eq_some_iff.mp hu
  exact .inl ⟨rfl, ov_flat x⟩
/-- the law: a list of at most 63 ints is handed in, True comes out -/
def spLaw (K : PySem.W.Frag) : Sp := fun vs H Q _ => ∃ (a : Addr) (ns : List Int), vs = [.ref a] ∧ SqL K H a (ns.map V.int) ∧ ns.length ≤ 63 ∧ ∀ H', Q (.bl true) H'
theorem paired_pick {α β : Type} {R : α → β → Prop} : ∀ {xs : List α} {ys : List β}, Paired R xs ys → ∀ xs' : List α, (∀ x ∈ xs', x ∈ xs) → ∃ ys' : List β, Paired R xs' ys' ∧ ∀ y ∈ ys', y ∈ ys
  | xs, ys, h, [], _ => ⟨[], .nil, fun y m => by cases m⟩
  | xs, ys, h, x :: xs', hs => by
    obtain ⟨i, hi, e⟩ := List.getElem_of_mem (hs x List.mem_cons_self)
    obtain ⟨y, ey, r⟩ := paired_at h i x (by rw [List.getElem?_eq_getElem hi, e])
    obtain ⟨ys', h1, h2⟩ := paired_pick h xs' fun z m => hs z (List.mem_cons_of_mem _ m)
    refine ⟨y :: ys', .cons r h1, fun z m => ?_⟩
    rcases List.mem_cons.mp m with q | q
    · subst q; exact List.mem_of_getElem? ey
    · exact h2 z q
theorem perm_refs {as : List Addr} {ys : List V} (h : ys.Perm (as.map V.ref)) : ∃ bs : List Addr, ys = bs.map V.ref ∧ bs.Perm as := by
  have hm : ∀ y ∈ ys, ∃ b, y = V.ref b := fun y m => by
    obtain ⟨b, _, e⟩ := List.mem_map.mp (h.mem_iff.mp m)
    exact ⟨b, e.symm⟩
  have key : ∀ zs : List V, (∀ y ∈ zs, ∃ b, y = V.ref b) → ∃ bs : List Addr, zs = bs.map V.ref := by
    intro zs
    induction zs with
    | nil => intro _; exact ⟨[], rfl⟩
    | cons z zs ih =>
      intro hz
      obtain ⟨b, e⟩ := hz z List.mem_cons_self
      obtain ⟨bs, e2⟩ := ih fun y m => hz y (List.mem_cons_of_mem _ m)
      exact ⟨b :: bs, by rw [e, e2]; rfl⟩
  obtain ⟨bs, e⟩ := key ys hm
  refine ⟨bs, e, ?_⟩
  rw [e] at h
  have h2 := h.map (fun v => match v with | V.ref a => a | _ => 0)
  rw [List.map_map, List.map_map] at h2
  have e1 : ∀ l : List Addr, l.map ((fun v => match v with | V.ref a => a | _ => 0) ∘ V.ref) = l := fun l => by
    induction l with
    | nil => rfl
    | cons x l ih => rw [List.map_cons, ih]; rfl
  rw [e1, e1] at h2
  exact h2
end K

namespace K
open PySem PySem.Spec PyProof.Rows L2
/-- a def that can be called: its promise, its name, its place, how its arguments bind -/
structure Cal (P : Program) (w : World) (K : PySem.W.Frag) (mg : Str → Option Value) (base : Heap) (k : Nat) (x : Str) (f : Addr) (fd : FuncData) (ps : List Str) (sp : Sp) : Prop where
  ok : FnOk P w K mg base CX0 k f fd ps sp
  g : mg x = some (.ref f)
  kp : PySem.W.keepIn K (.ref f) = true
  b : Binds K fd ps []
/-- the built-in names that the text reads stand for the built-in things -/
structure BT (mg : Str → Option Value) : Prop where
  len : mg "len" = none
  range : mg "range" = none
  list : mg "list" = none
  tuple : mg "tuple" = none
  isinstance : mg "isinstance" = none
  bool : mg "bool" = none
  int : mg "int" = none
  str : mg "str" = none
  all : mg "all" = none
  zip : mg "zip" = none
  sum : mg "sum" = none
  min : mg "min" = none
  sorted : mg "sorted" = none
  abs : mg "abs" = none
  enumerate : mg "enumerate" = none
end K

namespace K
open PySem PySem.Spec PyProof.Rows L2
open Sw (T3 Dist at? relax roundOf rounds)
theorem rep_non (n : Nat) : (List.replicate n [V.non]).flatten = (List.replicate n (none : Option Nat)).map ov := by
  induction n with
  | zero => rfl
  | succ n ih => rw [List.replicate_succ, List.replicate_succ, List.flatten_cons, ih]; rfl
theorem take_succ_of {α : Type} {l : List α} {i : Nat} {x : α} (h : l[i]? = some x) : l.take (i + 1) = l.take i ++ [x] := by
  rw [List.take_add_one, h]; rfl
theorem both_snoc (ts : List T3) (e : T3) : both (ts ++ [e]) = both ts ++ [e, (e.2.1, e.1, e.2.2)] := by
  unfold both
  rw [List.flatMap_append]
  simp
theorem roundOf_append (L M : List T3) (d : Dist) : roundOf (L ++ M) d = roundOf M (roundOf L d) := List.foldl_append
theorem map_ref_at {as : List Addr} {i : Nat} {y : V} (h : (as.map V.ref)[i]? = some y) : ∃ a, as[i]? = some a ∧ y = .ref a := by
  rw [List.getElem?_map] at h
  obtain ⟨a, e, q⟩ := Option.map_eq_some_iff.mp h
  exact ⟨a, e, q.symm⟩
end K
namespace K
open PySem PySem.Spec PyProof.Rows L2
open Sw (T3 Dist at? relax roundOf rounds IsNext Cand IsFar nbr candL)
/-- a row of neighbours (house, price) -/
def NbrAt (H : Hp) (p : Addr) (L : List (Nat × Nat)) : Prop := ∃ as : List Addr, H p = some (.lst (as.map V.ref)) ∧ Paired (fun a q => H a = some (.tup [.int (q.1 : Nat), .int (q.2 : Nat)])) as L
theorem NbrAt.same {H H' : Hp} {p : Addr} {L : List (Nat × Nat)} (h : NbrAt H p L) (s : Same H H') : NbrAt H' p L := by
  obtain ⟨as, h1, h2⟩ := h
  exact ⟨as, s _ _ h1, paired_mono (fun a q e => s _ _ e) h2⟩
theorem nbr_both (ts : List T3) (h u c : Nat) : (u, c) ∈ nbr ts h ↔ (h, u, c) ∈ both ts := by
  rw [Sw.nbr_mem, both_mem]
theorem both_sym (ts : List T3) : ∀ a b c, (a, b, c) ∈ both ts → (b, a, c) ∈ both ts := fun a b c m => by
  rw [both_mem] at m ⊢
  exact m.symm
def spNbr : Sp := fun vs H Q _ => ∃ (t : Addr) (ts : List T3) (h : Nat), vs = [.ref t, .int (h : Nat)] ∧ TiesAt H t ts ∧ ts.length ≤ 400 ∧ ∀ p H', H p = none → Same H H' → NbrAt H' p (nbr ts h) → Q (.ref p) H'
def spNextH : Sp := fun vs H Q _ => ∃ (p t : Addr) (d : Dist) (ts : List T3) (n g h : Nat), vs = [.ref p, .ref t, .int (g : Nat), .int (h : Nat)] ∧ DistAt H p d ∧ TiesAt H t ts ∧ ts.length ≤ 400 ∧ Fits n ts ∧ IsFar (both ts) n g d ∧ h < n ∧
  ∀ x H', IsNext (both ts) d g h x → Same H H' → Q (ov x) H'
/-- the list of next houses -/
def NextsAt (H : Hp) (p : Addr) (E : List T3) (d : Dist) (n g : Nat) : Prop := ∃ xs : List (Option Nat), H p = some (.lst (xs.map ov)) ∧ xs.length = n ∧ ∀ h < n, IsNext E d g h (at? xs h)
def spNexts : Sp := fun vs H Q _ => ∃ (n g : Nat) (t : Addr) (ts : List T3), vs = [.int (n : Nat), .ref t, .int (g : Nat)] ∧ g < n ∧ n ≤ 1000 ∧ TiesAt H t ts ∧ ts.length ≤ 400 ∧ Fits n ts ∧ ∀ p H', H p = none → Same H H' → NextsAt H' p (both ts) (farD n ts g) n g → Q (.ref p) H'
def spLNext : Sp := fun vs H Q _ => ∃ (n g h : Nat) (t : Addr) (ts : List T3), vs = [.int (n : Nat), .ref t, .int (h : Nat), .int (g : Nat)] ∧ g < n ∧ h < n ∧ n ≤ 1000 ∧ TiesAt H t ts ∧ ts.length ≤ 400 ∧ Good n ts ∧
  ∀ x H', IsNext (both ts) (farD n ts g) g h x → Same H H' → Q (ov x) H'
theorem nexts_eqv {H : Hp} {a b : Addr} {E : List T3} {d : Dist} {n g m : Nat} (h1 : NextsAt H a E d n g) (h2 : NextsAt H b E d n g) (hn : n ≤ 1000) : Eqv (m + 2) H (.ref a) (.ref b) := by
  obtain ⟨xs, e1, l1, n1⟩ := h1
  obtain ⟨ys, e2, l2, n2⟩ := h2
  have e : xs = ys := by
    refine List.ext_getElem? fun i => ?_
    by_cases hi : i < n
    · have := Sw.next_one (n1 i hi) (n2 i hi)
      unfold at? at this
      rw [List.getElem?_eq_getElem (by omega), List.getElem?_eq_getElem (by omega)] at this ⊢
      simpa using this
    · rw [List.getElem?_eq_none (by omega), List.getElem?_eq_none (by omega)]
  subst e
  exact eqv_dist e1 e2 (by omega)
theorem NextsAt.same {H H' : Hp} {p : Addr} {E : List T3} {d : Dist} {n g : Nat} (h : NextsAt H p E d n g) (s : Same H H') : NextsAt H' p E d n g := by
  obtain ⟨xs, h1, h2⟩ := h
  exact ⟨xs, s _ _ h1, h2⟩
end K
namespace K
open PySem PySem.Spec PyProof.Rows L2
open Sw (T3 Dist at? relax roundOf rounds IsNext Cand IsFar nbr candL)
theorem tv_inj {e u : T3} (h : tv e = tv u) : e = u := by
  obtain ⟨a, b, c⟩ := e
  obtain ⟨a', b', c'⟩ := u
  unfold tv at h
  injection h with h1 h
  injection h with h2 h
  injection h with h3 _
  injection h1 with h1
  injection h2 with h2
  injection h3 with h3
  have h1 : (a : Int) = a' := h1
  have h2 : (b : Int) = b' := h2
  have h3 : (c : Int) = c' := h3
  have q1 : a = a' := by omega
  have q2 : b = b' := by omega
  have q3 : c = c' := by omega
  rw [q1, q2, q3]
theorem ties_mem {H : Hp} {as : List Addr} {ts : List T3} (h : Paired (fun a e => H a = some (.tup (tv e))) as ts) (e : T3) : e ∈ ts ↔ ∃ a ∈ as, H a = some (.tup (tv e)) := by
  induction h with
  | nil => exact ⟨fun m => (by cases m), fun ⟨a, m, _⟩ => (by cases m)⟩
  | @cons a u as ts r _ ih =>
    constructor
    · intro m
      rcases List.mem_cons.mp m with q | q
      · subst q; exact ⟨a, List.mem_cons_self, r⟩
      · obtain ⟨b, m2, e2⟩ := ih.mp q
        exact ⟨b, List.mem_cons_of_mem _ m2, e2⟩
    · rintro ⟨b, m, e2⟩
      rcases List.mem_cons.mp m with q | q
      · subst q
        rw [r] at e2
        injection e2 with e2
        injection e2 with e2
        rw [tv_inj e2]
        exact List.mem_cons_self
      · exact List.mem_cons_of_mem _ (ih.mpr ⟨b, q, e2⟩)
theorem both_iff {ts us : List T3} (h : ∀ e, (e ∈ us ∨ swp e ∈ us) ↔ (e ∈ ts ∨ swp e ∈ ts)) (e : T3) : e ∈ both us ↔ e ∈ both ts := by
  rw [both_mem, both_mem]
  exact h e
theorem swapped_iff {us ts : List T3} (h : Paired (fun u e => u = e ∨ u = swp e) us ts) (e : T3) : (e ∈ us ∨ swp e ∈ us) ↔ (e ∈ ts ∨ swp e ∈ ts) := by
  induction h with
  | nil => exact ⟨fun m => m, fun m => m⟩
  | @cons u x us ts r _ ih =>
    have key : (e = u ∨ swp e = u) ↔ (e = x ∨ swp e = x) := by
      rcases r with q | q
      · rw [q]
      · subst q
        obtain ⟨a, b, c⟩ := e
        obtain ⟨a', b', c'⟩ := x
        unfold swp
        simp only [Prod.mk.injEq]
        constructor
        · rintro (⟨h1, h2, h3⟩ | ⟨h1, h2, h3⟩)
          · exact .inr ⟨h2, h1, h3⟩
          · exact .inl ⟨h2, h1, h3⟩
        · rintro (⟨h1, h2, h3⟩ | ⟨h1, h2, h3⟩)
          · exact .inr ⟨h2, h1, h3⟩
          · exact .inl ⟨h2, h1, h3⟩
    simp only [List.mem_cons]
    constructor
    · rintro ((q | q) | (q | q))
      · rcases key.mp (.inl q) with z | z
        · exact .inl (.inl z)
        · exact .inr (.inl z)
      · rcases ih.mp (.inl q) with z | z
        · exact .inl (.inr z)
        · exact .inr (.inr z)
      · rcases key.mp (.inr q) with z | z
        · exact .inl (.inl z)
        · exact .inr (.inl z)
      · rcases ih.mp (.inr q) with z | z
        · exact .inl (.inr z)
        · exact .inr (.inr z)
    · rintro ((q | q) | (q | q))
      · rcases key.mpr (.inl q) with z | z
        · exact .inl (.inl z)
        · exact .inr (.inl z)
      · rcases ih.mpr (.inl q) with z | z
        · exact .inl (.inr z)
        · exact .inr (.inr z)
      · rcases key.mpr (.inr q) with z | z
        · exact .inl (.inl z)
        · exact .inr (.inl z)
      · rcases ih.mpr (.inr q) with z | z
        · exact .inl (.inr z)
        · exact .inr (.inr z)
theorem farD_cong {n g : Nat} {ts us : List T3} (h1 : Fits n ts) (h2 : Fits n us) (hg : g < n) (h : ∀ e, e ∈ both us ↔ e ∈ both ts) : farD n us g = farD n ts g :=
  Sw.far_one (Sw.far_cong h (farD_is h2 hg)) (farD_is h1 hg)
theorem NextsAt.cong {H : Hp} {p : Addr} {E E' : List T3} {d : Dist} {n g : Nat} (he : ∀ e, e ∈ E ↔ e ∈ E') (h : NextsAt H p E d n g) : NextsAt H p E' d n g := by
  obtain ⟨xs, h1, h2, h3⟩ := h
  exact ⟨xs, h1, h2, fun i hi => Sw.next_cong he (h3 i hi)⟩
theorem fits_of {n : Nat} {ts us : List T3} (h : Fits n ts) (he : ∀ e, e ∈ both us ↔ e ∈ both ts) : Fits n us := fun e m => both_lt h e ((he e).mp ((both_mem us e).mpr (.inl m)))
end K

namespace PySem
namespace F
theorem args_minD (a d : Value) : argsOk "min" ⟨[a], [(Str.ofString "default", d)]⟩ := by unfold argsOk; kernel_rfl
end F
section
variable {prog : Program} {w : World} {A : Around} {E : Value → Shared → Prop} {s : Shared}
/-- a built-in's call with keywords, where the built-in goes on as another one -/
theorem call_tree_kw {id : String} {b : Builtin} {args : List Value} {kw : List (Str × Value)} {Q : Value → Shared → Prop} (hk : builtinKind id = none) (hp : plainId id = true) (hb : entryFor table id = some b) (ha : argsOk id ⟨args, kw⟩)
    (hc : wpAny (model prog w) A.in1 (b ⟨args, kw⟩) (fun fin s' => match fin with
      | .done f => (match (Except.ok f : Result) with | .ok (.ret v) => Q v s' | .ok _ => False | .error e => E e s')
      | .again c' => c'.quiet = true ∧ codeAny (model prog w) A c' (fun r s' => match r with | .ok (.ret v) => Q v s' | .ok _ => False | .error e => E e s') s') E s) : wpAny (model prog w) A (call (.builtin id) args kw) Q E s := by
  refine wpAny_call (codeAny_call_builtin hp hb ?_)
  simp only [checkBuiltinCall, hk]
  cases hsig : Manifest.signature? id with
  | none => exact wpAny_pure hc
  | some sig =>
    have hz : Bind.checkArgs id sig ⟨args, kw⟩ = pure () := by simpa only [argsOk, hsig] using ha
    show wpAny _ A.in1 (Bind.checkArgs id sig ⟨args, kw⟩) _ _ s
    rw [hz]; exact wpAny_pure hc
end
section
variable {prog : Program} {w : World} {A : Around} {R : Result → Shared → Prop} {I : Addr} {fp wr : List Addr} {n : Nat} {P : Nat → Value → Prop} {St : Nat → Heap → Prop}
theorem minD_name : (toString "min" ++ toString ".loop" : String) = "min.loop" := by decide
theorem minD_loop (d : Value) (W : Walks prog w A.in1 I fp wr n P St) (bt : Nat → Nat → Bool) (hcmp : CmpOf prog w A.in1 .Lt P bt) (S : Addr) (hSf : S ∉ fp) :
    ∀ (k j : Nat) (s : Shared) (vb : Value) (c : Nat), n - (j + 1) = k → j + 1 ≤ n → St (j + 1) s.heap → P (argBest bt j) vb → s.heap.get? S = some { cls := .type "list", dict := none, data := .seq #[vb, vb] c, slots := #[] } →
    (∀ v h' tk, P (argBest bt (n - 1)) v → (∀ b o, b ∉ wr → b ≠ S → s.heap.get? b = some o → h'.get? b = some o) → R (.ok (.ret v)) { s with heap := h', toks := tk }) → codeAny (model prog w) A (.builtin "min.loop" ⟨[.ref I, .none, .ref S], [(Str.ofString "default", d)]⟩) R s := by
  have nS : S ∉ wr := fun h => hSf (W.sub _ h)
  intro k
  induction k with
  | zero =>
    intro j s vb c hk hj st pb e0 hR
    have hin : j + 1 = n := by omega
    refine codeAny_builtin F.entry_min_loop ?_
    rw [Around.under_plainId F.plain_min_loop _]
    show wpAny _ A.in1 (seqItems? (.ref S) >>= _) _ _ s
    refine wpAny_bind (wpAny_seqItems e0 rfl ?_)
    show wpAny _ A.in1 (tryCatch (pyNext (.ref I)) _ >>= _) _ _ s
    refine wpAny_bind (wpAny_tryCatch (W.done s _ _ (hin ▸ st) fun h' tk keep => ?_))
    have e1 := keep S _ nS e0
    show wpAny _ A.in1 (updateSeq S (fun _ => #[]) >>= _) _ _ _
    refine wpAny_bind (wpAny_updateSeq e1 rfl (wpAny_bind (wpAny_letGo (wpAny_pure ?_))))
    exact hR vb _ tk (by rw [← hin]; exact pb) fun b o hbw hbS e => (Heap.get?_update_other _ _ (Ne.symm hbS)).trans (keep b o hbw e)
  | succ k ih =>
    intro j s vb c hk hj st pb e0 hR
    have hlt : j + 1 < n := by omega
    refine codeAny_builtin F.entry_min_loop ?_
    rw [Around.under_plainId F.plain_min_loop _]
    show wpAny _ A.in1 (seqItems? (.ref S) >>= _) _ _ s
    refine wpAny_bind (wpAny_seqItems e0 rfl ?_)
    show wpAny _ A.in1 (tryCatch (pyNext (.ref I)) _ >>= _) _ _ s
    refine wpAny_bind (wpAny_tryCatch (W.item (j + 1) s _ _ hlt st fun v h' tk pv st' keep => ?_))
    have e1 := keep S _ nS e0
    show wpAny _ A.in1 (tryCatch (holding [v, v] (richCompare .Lt v vb >>= _)) _ >>= _) _ _ _
    refine wpAny_bind (wpAny_tryCatch (wpAny_holding (wpAny_bind (hcmp (j + 1) (argBest bt j) v vb _ _ _ pv pb ?_))))
    refine wpAny_bind (wpAny_holding (wpAny_truthy_bool (wpAny_bind (wpAny_letGo (wpAny_pure ?_)))))
    cases hb : bt (j + 1) (argBest bt j) with
    | true =>
      simp only [if_true]
      refine wpAny_bind (wpAny_updateSeq e1 rfl (wpAny_bind (wpAny_letGo ?_)))
      rw [minD_name]
      refine wpAny_pure ⟨plainId_quiet F.plain_min_loop _, ih (j + 1) _ v _ (by omega) hlt (W.frame _ _ _ st' fun b hbf o e => (Heap.get?_update_other _ _ (fun h : S = b => hSf (by rw [h]; exact hbf))).trans e) (by simp only [argBest, hb, if_true]; exact pv) (Heap.get?_update_self _ e1 rfl) fun v' h2 tk2 pv' keep2 => ?_⟩
      exact hR v' h2 tk2 pv' fun b o hbw hbS e => keep2 b o hbw hbS ((Heap.get?_update_other _ _ (Ne.symm hbS)).trans (keep b o hbw e))
    | false =>
      simp only [Bool.false_eq_true, if_false]
      refine wpAny_bind (wpAny_letGo ?_)
      rw [minD_name]
      refine wpAny_pure ⟨plainId_quiet F.plain_min_loop _, ih (j + 1) _ vb c (by omega) hlt st' (by simp only [argBest, hb, Bool.false_eq_true, if_false]; exact pb) e1 fun v' h2 tk2 pv' keep2 => ?_⟩
      exact hR v' h2 tk2 pv' fun b o hbw hbS e => keep2 b o hbw hbS (keep b o hbw e)
theorem minD_first (d : Value) (W : Walks prog w A.in1 I fp wr n P St) (bt : Nat → Nat → Bool) (hcmp : CmpOf prog w A.in1 .Lt P bt) (S : Addr) (hSf : S ∉ fp) {s : Shared} {c : Nat} (st : St 0 s.heap) (e0 : s.heap.get? S = some { cls := .type "list", dict := none, data := .seq #[] c, slots := #[] })
    (h0 : n = 0 → ∀ h' tk, (∀ b o, b ∉ wr → b ≠ S → s.heap.get? b = some o → h'.get? b = some o) → R (.ok (.ret d)) { s with heap := h', toks := tk })
    (hR : 0 < n → ∀ v h' tk, P (argBest bt (n - 1)) v → (∀ b o, b ∉ wr → b ≠ S → s.heap.get? b = some o → h'.get? b = some o) → R (.ok (.ret v)) { s with heap := h', toks := tk }) :
    codeAny (model prog w) A (.builtin "min.loop" ⟨[.ref I, .none, .ref S], [(Str.ofString "default", d)]⟩) R s := by
  have nS : S ∉ wr := fun h => hSf (W.sub _ h)
  refine codeAny_builtin F.entry_min_loop ?_
  rw [Around.under_plainId F.plain_min_loop _]
  show wpAny _ A.in1 (seqItems? (.ref S) >>= _) _ _ s
  refine wpAny_bind (wpAny_seqItems e0 rfl ?_)
  show wpAny _ A.in1 (tryCatch (pyNext (.ref I)) _ >>= _) _ _ s
  by_cases hn : 0 < n
  · refine wpAny_bind (wpAny_tryCatch (W.item 0 s _ _ hn st fun v h' tk pv st' keep => ?_))
    have e1 := keep S _ nS e0
    show wpAny _ A.in1 (updateSeq S (fun _ => #[v, v]) >>= _) _ _ _
    refine wpAny_bind (wpAny_updateSeq e1 rfl ?_)
    rw [minD_name]
    refine wpAny_pure ⟨plainId_quiet F.plain_min_loop _, minD_loop d W bt hcmp S hSf _ 0 _ v _ rfl hn (W.frame _ _ _ st' fun b hbf o e => (Heap.get?_update_other _ _ (fun h : S = b => hSf (by rw [h]; exact hbf))).trans e) pv (Heap.get?_update_self _ e1 rfl) fun v' h2 tk2 pv' keep2 => ?_⟩
    exact hR hn v' h2 tk2 pv' fun b o hbw hbS e => keep2 b o hbw hbS ((Heap.get?_update_other _ _ (Ne.symm hbS)).trans (keep b o hbw e))
  · have hz : n = 0 := by omega
    refine wpAny_bind (wpAny_tryCatch (W.done s _ _ (hz ▸ st) fun h' tk keep => ?_))
    refine wpAny_bind (wpAny_rule (wpAny_pure ?_))
    exact h0 hz h' tk fun b o hbw _ e => keep b o hbw e
end
section
variable {prog : Program} {w : World} {A : Around} {E : Value → Shared → Prop} {s : Shared}
theorem call_minD {x d : Value} {Q : Value → Shared → Prop}
    (h : wpAny (model prog w) A.in1 (pyIter x) (fun it s₂ => ∃ I fp wr n P St bt, it = .ref I ∧ Walks prog w A.in1 I fp wr n P St ∧ St 0 s₂.heap ∧ (∀ b ∈ fp, b < s₂.heap.objs.size) ∧ CmpOf prog w A.in1 .Lt P bt ∧
      (n = 0 → ∀ h' tk, (∀ b o, b ∉ wr → s₂.heap.get? b = some o → h'.get? b = some o) → Q d { s₂ with heap := h', toks := tk }) ∧
      (0 < n → ∀ v h' tk, P (argBest bt (n - 1)) v → (∀ b o, b ∉ wr → s₂.heap.get? b = some o → h'.get? b = some o) → Q v { s₂ with heap := h', toks := tk })) E s) :
    wpAny (model prog w) A (call (.builtin "min") [x] [(Str.ofString "default", d)]) Q E s := by
  refine call_tree_kw F.kind_min F.plain_min F.entry_min (F.args_minD _ _) ?_
  show wpAny _ A.in1 (Builtin.Builtins.bindParams "min" ["key", "default"] 0 ⟨[], [(Str.ofString "default", d)]⟩ >>= _) _ _ s
  refine wpAny_bind (wpAny_of_eq (show Builtin.Builtins.bindParams "min" ["key", "default"] 0 ⟨[], [(Str.ofString "default", d)]⟩ = pure [none, some d] from rfl) ?_)
  refine wpAny_bind (wpAny_pure (wpAny_bind (wpAny_mono h (fun it s₂ h₂ => ?_) fun _ _ e => e)))
  obtain ⟨I, fp, wr, n, P, St, bt, rfl, W, hst, hfp, hcmp, hQ0, hQ⟩ := h₂
  refine wpAny_bind (wpAny_newObj_type ?_)
  have nS : s₂.heap.objs.size ∉ fp := fun hm => Nat.lt_irrefl _ (hfp _ hm)
  rw [minD_name]
  refine wpAny_pure ⟨plainId_quiet F.plain_min_loop _, minD_first d W bt hcmp s₂.heap.objs.size nS (W.frame _ _ _ hst fun b _ o e => Heap.get?_push_of_some _ e) (Heap.get?_push_size _ rfl) (fun hz h' tk keep => ?_) (fun hn v h' tk pv keep => ?_)⟩
  · exact hQ0 hz h' tk fun b o hbw e => keep b o hbw (Nat.ne_of_lt (Heap.lt_size e)) (Heap.get?_push_of_some _ e)
  · exact hQ hn v h' tk pv fun b o hbw e => keep b o hbw (Nat.ne_of_lt (Heap.lt_size e)) (Heap.get?_push_of_some _ e)
end
end PySem
namespace L2
open PySem PySem.Spec PyProof.Rows
section
variable {X : Cx}
/-- min(xs, default=d) of a list of ints -/
def rMinD (K : PySem.W.Frag) : List V → List V → Hp → VK → Prop := fun vs zs H Q => ∃ (a : Addr) (ns : List Int) (d : V), vs = [V.ref a] ∧ zs = [d] ∧ SqL K H a (ns.map V.int) ∧ (ns = [] → Q d H) ∧ ∀ m, m ∈ ns → (∀ y, y ∈ ns → m ≤ y) → Q (.int m) H
theorem cr_minD (hc : X.calm = true) : CallRK X (.builtin "min") ["default"] (rMinD X.K) := by
  intro pins s σ H vs zs us ws Q I r r2 h
  obtain ⟨a, ns, d, rfl, rfl, hs, q0, q⟩ := h
  obtain ⟨its, rv, hl, _⟩ := I.list hs
  rw [Vals.ref1 r]
  cases r2 with
  | @cons _ u _ _ rd rn =>
  cases rn
  have hi := rv.ints
  have hlen := hi.length
  have hat : ∀ (i : Nat) (v : Value), its.toArray[i]? = some v → ∃ t, v = .int (ns.getD i 0) t := fun i v hv => by
    have hv' : its[i]? = some v := by simpa using hv
    have hlt : i < its.length := (List.getElem?_eq_some_iff.mp hv').1
    obtain ⟨w, hw, rw'⟩ := rv.get (i := i) (x := .int (ns.getD i 0)) (by
      rw [List.getElem?_map, List.getD_eq_getElem?_getD, List.getElem?_eq_getElem (by omega : i < ns.length)]
      rfl)
    rw [hv'] at hw
    cases hw
    exact rw'
  show wpAny _ _ (call (.builtin "min") [.ref a] [(Str.ofString "default", u)]) _ _ _
  refine call_minD (iter_any hl.isList fun s₂ e2 st hne => ?_)
  subst e2
  refine ⟨_, _, _, _, _, _, _, rfl, Walks.list (A := X.A.in1) (I.ok.hd hc) _ a hne its.toArray, st, ?_, CmpOf.ints_lt (fun i => ns.getD i 0) hat, fun hz h' tk hk => ?_, fun hn v h' tk hP hk => ?_⟩
  · intro b hb
    have hsz := Heap.size_push s.heap { cls := .type "list_iterator", data := .fields #[.ref a, .int 0 0] }
    show b < (s.heap.push _).objs.size
    rw [hsz]
    rcases List.mem_cons.mp hb with e1 | hb
    · rw [e1]; exact Nat.lt_succ_self _
    · rw [List.mem_singleton.mp hb]
      obtain ⟨_, e, _⟩ := hl.isList
      exact Nat.lt_succ_of_lt (Heap.lt_size e)
  · refine ⟨d, H, I.kept fun b o eo => hk b o (fun hmem => ?_) (Heap.get?_push_of_some _ eo), rd, q0 ?_⟩
    · rw [List.mem_singleton] at hmem
      exact absurd (hmem ▸ Heap.lt_size eo) (Nat.lt_irrefl _)
    · rw [List.size_toArray] at hz
      cases ns with
      | nil => rfl
      | cons => simp at hlen; omega
  · obtain ⟨t, rfl⟩ := hat _ _ hP
    obtain ⟨h1, h2⟩ := argBest_lt (fun i => ns.getD i 0) (its.toArray.size - 1)
    rw [List.size_toArray] at hn h1 h2 ⊢
    refine ⟨.int _, H, I.kept fun b o eo => hk b o (fun hmem => ?_) (Heap.get?_push_of_some _ eo), ⟨t, rfl⟩, q _ ?_ fun y hy => ?_⟩
    · rw [List.mem_singleton] at hmem
      exact absurd (hmem ▸ Heap.lt_size eo) (Nat.lt_irrefl _)
    · have hlt : argBest (fun i j => decide (ns.getD i 0 < ns.getD j 0)) (its.length - 1) < ns.length := by omega
      rw [List.getD_eq_getElem?_getD, List.getElem?_eq_getElem hlt]
      exact List.getElem_mem hlt
    · obtain ⟨j, hj, rfl⟩ := List.getElem_of_mem hy
      have := h2 j (by omega)
      rw [List.getD_eq_getElem?_getD (i := j), List.getElem?_eq_getElem hj] at this
      exact this
end
end L2

namespace PySem
open Sem
/-- the text of a list, whatever is under way -/
theorem list_repr_any {M : Model} {A : Around} {E : Value → Shared → Prop} {s : Shared} {Q : Fin → Shared → Prop} {a : Addr} {o : Obj} {x : Value} {l : List Value} {n b : Nat} (hget : s.heap.get? a = some o) (hd : o.data = .seq (x :: l).toArray n)
    (h1 : ∀ u tk, Q (.done (.ret (.str "[...]" u))) { s with toks := tk }) (h2 : wpAny M A (do again (.builtin "list.__repr__.loop" ⟨[.ref a, rawInt 0, ← newList [], rawInt b], []⟩)) Q E s) : wpAny M A (Builtin.listReprAt b ⟨[.ref a], []⟩) Q E s := by
  intro Γ p hΓ
  have k2 := h2 Γ p hΓ
  unfold Builtin.listReprAt
  simp [slotArgs, Builtin.List.listItems, seqItems?, wp_load_of (h := hget), hd, stack]
  show wp M Γ (if (Γ.below.any _) = true then _ else _) _ _ p s
  split
  · simp [rule, retStr, ret]
    exact h1 _ _
  · exact k2
section
variable {prog : Program} {w : World} {A : Around} {E : Value → Shared → Prop} {s : Shared}
theorem fmt_list_repr {a : Addr} {o : Obj} {l : List Value} {n : Nat} {ts : List Str} {Q : Value → Shared → Prop} (ha : s.heap.get? a = some o) (hc : o.cls = .type "list") (hd : o.data = .seq l.toArray n) (hlen : ts.length = l.toArray.size)
    (hT : ∀ (i : Nat) (y : Value), l.toArray[i]? = some y → ∃ t, ts[i]? = some t ∧ ReprIs prog w y t) (hsz : (listText ts).length ≤ sizeLine)
    (h : ∀ (m : Str) (h' : Heap) (u tk : Tok), m.length ≤ (listText ts).length + 5 → (∀ b o, s.heap.get? b = some o → h'.get? b = some o) → Q (.str m u) { s with heap := h', toks := tk }) : wpAny (model prog w) A (call (.builtin "list.__repr__") [.ref a]) Q E s := by
  have hTy : s.TypeIs (.ref a) "list" := ⟨o, ha, hc⟩
  cases l with
  | nil => exact call_list_repr_empty hTy ha hd (h "[]" s.heap _ _ (Nat.le_trans (by decide +kernel : ("[]" : Str).length ≤ 5) (Nat.le_add_left _ _)) fun _ _ e => e)
  | cons x l =>
    refine wpAny_call (codeAny_call_builtin F.slot_list_repr.plain F.entry_list_repr (F.slot_list_repr.check _ _ _ _ _ _ _ _ hTy (F.args_list_repr_1 _) ?_))
    refine list_repr_any (b := 0) ha hd (fun u tk => ?_) ?_
    · exact h "[...]" s.heap u tk (Nat.le_trans (by decide +kernel : ("[...]" : Str).length ≤ 5) (Nat.le_add_left _ _)) fun _ _ e => e
    · refine wpAny_bind (m := newList []) (wpAny_newObj_type ?_)
      refine wpAny_pure ⟨F.quiet_list_repr_loop _, ?_⟩
      refine codeAny_list_repr_start (P := s.heap.objs.size) (Nat.ne_of_lt (Heap.lt_size ha)) hlen hT (Heap.get?_push_of_some _ ha) hd (Heap.get?_push_size _ rfl) (fun h' u tk hk => ?_) (by omega)
      exact h (listText ts) h' u tk (Nat.le_add_right _ _) fun b o e => hk b o (Nat.ne_of_lt (Heap.lt_size e)) (Heap.get?_push_of_some _ e)
theorem fmt_list {a : Addr} {o : Obj} {l : List Value} {n : Nat} {ts : List Str} {Q : Value → Shared → Prop} (hu : A.units + 2 < cLine) (ha : s.heap.get? a = some o) (hc : o.cls = .type "list") (hd : o.data = .seq l.toArray n) (hlen : ts.length = l.toArray.size)
    (hT : ∀ (i : Nat) (y : Value), l.toArray[i]? = some y → ∃ t, ts[i]? = some t ∧ ReprIs prog w y t) (hsz : (listText ts).length ≤ sizeLine)
    (h : ∀ (m : Str) (h' : Heap) (u tk : Tok), m.length ≤ (listText ts).length + 5 → (∀ b o, s.heap.get? b = some o → h'.get? b = some o) → Q (.str m u) { s with heap := h', toks := tk }) : wpAny (model prog w) A (formatField (.ref a) Str.empty) Q E s :=
  wpAny_formatField_slot (fun _ _ => nofun) hu ⟨o, ha, hc⟩ F.slot_list_format F.slot_list_str F.slot_list_repr.toG
    (fmt_list_repr (s := { s with toks := s.toks + 1 }) ha hc hd hlen hT hsz fun m h' u tk hm hk => ⟨m, u, rfl, h m h' u tk hm hk⟩)
end
end PySem

namespace L2
open PySem PySem.Spec PyProof.Rows
theorem text_le : ∀ (ts : List Str) (k : Nat) (acc : Str), (textFrom k acc ts).length ≤ acc.length + piled ts
  | [], k, acc => Nat.le_add_right _ _
  | t :: ts, k, acc => by
    have ih := text_le ts (k + 1) (acc ++ ((if k > 0 then ", " else "" : String) : Str) ++ t)
    have e : (((if k > 0 then ", " else "" : String)) : Str).length ≤ 2 := by split <;> decide +kernel
    rw [strLen_append, strLen_append] at ih
    rw [piled_cons]
    show (textFrom (k + 1) (acc ++ ((if k > 0 then ", " else "" : String) : Str) ++ t) ts).length ≤ _
    omega
theorem digit_len {i : Int} (h0 : 0 ≤ i) (h1 : i < 10) : (Str.ofString (toString i)).length = 1 := by
  have : i = 0 ∨ i = 1 ∨ i = 2 ∨ i = 3 ∨ i = 4 ∨ i = 5 ∨ i = 6 ∨ i = 7 ∨ i = 8 ∨ i = 9 := by omega
  rcases this with e | e | e | e | e | e | e | e | e | e <;> subst e <;> decide +kernel
section
variable {X : Cx}
/-- {xs}, xs a list of digits: some text -/
def tFmtL (K : PySem.W.Frag) (te : TE) : TE := fun σ H Q => te σ H fun x H1 => ∃ (a : Addr) (ns : List Int), x = .ref a ∧ SqL K H1 a (ns.map V.int) ∧ ns.length ≤ 100 ∧ (∀ n ∈ ns, 0 ≤ n ∧ n < 10) ∧ ∀ m : Str, m.length ≤ 1000 → Q (.str m) H1
theorem pe_fmtLu {e : Expr} {te : TE} {pos : Pos} (hu : X.A.units + 2 < cLine) (he : PE X e te) : PE X (.FormattedValue e (-1) none pos) (tFmtL X.K te) := by
  refine ⟨fun pins s σ H Q I h => ?_⟩
  refine wpAny_FormattedValue_plain (thn (he.run pins s σ H _ I h) fun v s1 hv => ?_)
  obtain ⟨x, H1, I1, r1, a, ns, rfl, hs, hl, hn, q⟩ := hv
  cases r1
  obtain ⟨its, rv, pl, _⟩ := I1.list hs
  obtain ⟨o, ho, hcl, n, hd⟩ := pl.isList
  have hlen := rv.length
  rw [List.length_map] at hlen
  have hpile : ∀ l : List Int, (∀ n ∈ l, 0 ≤ n ∧ n < 10) → piled (l.map fun i => Str.ofString (toString i)) = 3 * l.length := by
    intro l
    induction l with
    | nil => intro _; rfl
    | cons i l ih =>
      intro hl
      have hi := hl i List.mem_cons_self
      rw [List.map_cons, piled_cons, ih (fun n m => hl n (List.mem_cons_of_mem _ m)), digit_len hi.1 hi.2, List.length_cons]
      omega
  have hp := hpile ns hn
  have hz : (listText (ns.map fun i => Str.ofString (toString i))).length ≤ 3 * ns.length + 2 := by
    unfold listText
    have h1 := text_le (ns.map fun i => Str.ofString (toString i)) 0 "["
    have e1 : ((("[" : String) : Str)).length = 1 := rfl
    have e2 : ((("]" : String) : Str)).length = 1 := rfl
    rw [strLen_append, e2]
    rw [e1] at h1
    omega
  refine fmt_list (ts := ns.map fun i => Str.ofString (toString i)) (by omega) ho hcl hd (by rw [List.length_map, List.size_toArray]; exact hlen) (fun i y hy => ?_) (by rw [sizeLine_eq]; omega) fun m h' u tk hm hk => ⟨.str m, H1, I1.kept hk, ⟨u, rfl⟩, q m (by omega)⟩
  have hy' : its[i]? = some y := by simpa using hy
  have hlt : i < ns.length := by have := (List.getElem?_eq_some_iff.mp hy').1; omega
  obtain ⟨z, hz2, rz⟩ := rv.get (i := i) (x := .int ns[i]) (by rw [List.getElem?_map, List.getElem?_eq_getElem hlt]; rfl)
  rw [hy'] at hz2
  cases hz2
  obtain ⟨t, rfl⟩ := rz
  have hb := hn _ (List.getElem_mem hlt)
  refine ⟨_, by rw [List.getElem?_map, List.getElem?_eq_getElem hlt]; rfl, ReprIs.int t ?_⟩
  have : ns[i].natAbs < 10 := by omega
  exact Nat.lt_of_le_of_lt (Nat.log2_le_self _) (by omega)
theorem pe_fmtL {e : Expr} {te : TE} {pos : Pos} {k : Nat} (hr : Room k X.A) (he : PE X e te) : PE X (.FormattedValue e (-1) none pos) (tFmtL X.K te) := pe_fmtLu (by have := hr.units; omega) he
/-- C.m(e, ..), C the class at C (own), m a def of it -/
def tClsF (C : Addr) (sp : Sp) (E : XK) (ta : TE) (t : TA) : TE := fun σ H Q => ta σ H fun x H1 => x = .ref C ∧ t σ H1 fun vs H2 => sp vs H2 Q E
theorem pe_clsf {CX : CXT} {k : Nat} {C f : Addr} {fd : FuncData} {ps : List Str} {mc : Value} {sp : Sp} {E : XK} {o e : Expr} {es : List Expr} {m : Str} {pos apos : Pos} {ta : TE} {t : TA} {pl : Sem Bool} (he : PE X o ta) (r : ClX.CRead X.K C mc) (at_ : PySem.W.findCls X.K (.ref C) mc m = some (.val (.ref f)))
    (F : FnOk X.prog X.w X.K X.mg X.base CX k f fd ps sp) (hr : Room k X.A) (hk : PySem.W.keepIn X.K (.ref f) = true) (hb : Binds X.K fd ps []) (hx : Passes CX X E) (ha : PA X (e :: es) t)
    (hst : starEach (e :: es) X.env = (false, eval e X.env) :: starEach es X.env := by rfl) (hpl : (backTo pos (starEach es X.env)).any (·.1) = false := by rfl)
    (ht : eval (.Call (.Attribute o m apos) (e :: es) [] pos) X.env = (do
      let ov ← eval o X.env
      standAt apos.atName
      let (f, first) ← holding [ov] (getMethod ov m pl)
      callWith pos f first (backTo pos (starEach (e :: es) X.env)) (backToKw pos (keywordEach [] X.env))) := by rfl) :
    PE X (.Call (.Attribute o m apos) (e :: es) [] pos) (tClsF C sp E ta t) := by
  refine ⟨fun pins s σ H Q I h => ?_⟩
  refine PySem.W.methodCall_KW (pl := pl) (thn (he.run pins s σ H _ I h) fun u s1 ⟨x, H1, I1, rx, ex, q⟩ => ?_) ht
  subst ex
  obtain rfl : u = Value.ref C := rx
  refine PySem.W.method_cls I1.kIn r.ga (ClX.getcval_ok (v := .ref f) I1 r ⟨at_, rfl⟩ fun s2 I2 => ?_)
  refine PySem.W.callWith_K (h₀ := X.base) I2.ok.mod.kin hk (thn (ha.run pos pins s2 σ H1 _ I2 q) fun us s3 ⟨vs, H2, I3, rv, q2⟩ => ⟨I3.kIn, ?_⟩) hst hpl
  refine run_fn (dvs := []) F hr hb .nil hx I3 rv ?_
  rw [List.append_nil]
  exact q2
end
end L2

/-! several except clauses, with and without a name -/
namespace L2
open PySem PySem.Spec PyProof.Rows
/-- one clause: the class that it names, the slot of its name (if any), its suite's reading -/
structure Cl where
  c : Value
  i : Option Nat
  ts : Addr → Value → Option Addr → TS
def slotN (i : Option Nat) (v : Option V) (σ : St) : St := match i with
  | none => σ
  | some i => σ.set i v
def endsN (i : Option Nat) (D : Ends) : Ends := match i with
  | none => D
  | some i => { nx := fun σ H => D.nx (σ.set i none) H, rt := D.rt, bk := fun σ H => D.bk (σ.set i none) H, ct := fun σ H => D.ct (σ.set i none) H }
/-- what the clauses wish of an exception of the body -/
def wMix (K : PySem.W.Frag) (Wout : WX) (D : Ends) : List Cl → WX
  | [] => Wout
  | x :: r => fun cls d σ H => ∃ b, PySem.W.exmOne K cls x.c = some b ∧ (b = true → ∀ a, H a = none → x.ts a cls d (endsN x.i D) (slotN x.i (some (.ref a)) σ) H) ∧ (b = false → wMix K Wout D r cls d σ H)
inductive MixOk (X : Cx) : List ExceptHandler → List Cl → Prop
  | nil : MixOk X [] []
  | bare {x : Str} {c : Value} {ts : Addr → Value → Option Addr → TS} {b₀ : Stmt} {suite : List Stmt} {np pos' : Pos} {hds : List ExceptHandler} {l : List Cl} (hc : Names X x c)
      (hsu : ∀ (a : Addr) (oe : Obj) (cls : Value) (d : Option Addr) (pn : List (Addr × Obj)), Zc cls d oe → (∃ vs, oe.data = .fields vs) → PSs (X.suite a ((a, oe) :: pn)) (b₀ :: suite) (ts a cls d)) (r : MixOk X hds l) :
      MixOk X (.ExceptHandler (some (.Name x np)) none (b₀ :: suite) pos' :: hds) (⟨c, none, ts⟩ :: l)
  | as {x n : Str} {i : Nat} {c : Value} {ts : Addr → Value → Option Addr → TS} {b₀ : Stmt} {suite : List Stmt} {np pos' : Pos} {hds : List ExceptHandler} {l : List Cl} (hN : X.N.Nodup) (hi : X.N[i]? = some n) (hln : X.env.kindOf n = some .local) (hc : Names X x c)
      (hsu : ∀ (a : Addr) (oe : Obj) (cls : Value) (d : Option Addr) (pn : List (Addr × Obj)), Zc cls d oe → (∃ vs, oe.data = .fields vs) → PSs (X.suite a ((a, oe) :: pn)) (b₀ :: suite) (ts a cls d)) (r : MixOk X hds l) :
      MixOk X (.ExceptHandler (some (.Name x np)) (some n) (b₀ :: suite) pos' :: hds) (⟨c, some i, ts⟩ :: l)
section
variable {X : Cx} {body : List Stmt} {h₀ : ExceptHandler} {hds : List ExceptHandler} {l : List Cl} {pos : Pos} {tb : WX → TS} {Wout : WX}
theorem ps_try_mix (hs : X.stack = X.env :: X.outer) (hf : X.env.frame = some X.env.locals) (tk : Takes X Wout)
    (hb : ∀ (W : WX) (pn : List (Addr × Obj)) (xe : Value → Shared → Prop), Takes (X.tr pn xe) W → PassesOwn (model X.prog X.w) X.A X.env xe → PSs (X.tr pn xe) body (tb W))
    (hh : MixOk X (h₀ :: hds) l) : PS X (.Try body (h₀ :: hds) [] [] pos) (fun D σ H => tb (wMix X.K Wout D l) D σ H) := by
  refine ⟨fun pins s σ H D I h => ?_⟩
  have ok := I.ok
  have hfr : X.A.frames = some (X.env :: X.outer) := by rw [ok.frames, hs]
  refine wpAny_Try_except (wpAny_mono ((hb (wMix X.K Wout D l) (X.pn ++ pins) (fun e s₁ => wpAny (model X.prog X.w) X.A (noteFrame e X.env) (fun _ s₂ => wpAny (model X.prog X.w) X.A (setFlight e none) (fun _ s₃ => wpAny (model X.prog X.w) X.A (handleBy e X.env (h₀ :: hds)) (SP X pins D) X.xe s₃) X.xe s₂) X.xe s₁) (fun u s' xx => ?_) PassesOwn.looking).run [] s σ H D (I.toTry _) h) (fun f s1 hsp => ?_) (fun e s1 he => he))
  · obtain ⟨a, B, sI, pins', σ', H', cls, d, rfl, J', nb, up, sky, na, os, ag, w⟩ := xx
    have J : Inv X pins σ' H' sI := J'.ofTry ok
    have sky2 : Sky B (X.env :: X.outer) a (Zc cls d) X.env.locals s'.heap := by rw [← hs]; exact sky
    show wpAny (model X.prog X.w) X.A (noteFrame (.ref a) X.env) _ _ _
    refine Sky.land Zc.steady hfr hf sky2 fun h3 fl3 up3 => ?_
    have J3 : Inv X pins σ' H' { s' with heap := h3 } := J.landed nb fl3.1 (up.trans up3) os ag
    obtain ⟨oe3, vs3, he3, hz3, hd3⟩ := fl3.there
    have nfr : a ∉ frs (X.env :: X.outer) := fun hm => by
      obtain ⟨_, o', e', hnf⟩ := fl3.2.2.1.mem hm
      rw [he3] at e'; cases e'
      exact hnf _ hd3
    have nL : a ≠ X.env.locals := fun z => nfr (List.mem_filterMap.mpr ⟨X.env, List.mem_cons_self, by rw [hf, z]⟩)
    have nF : a ∉ X.fs := fun hm => by
      obtain ⟨e, he, q⟩ := List.mem_filterMap.mp hm
      exact nfr (List.mem_filterMap.mpr ⟨e, List.mem_cons_of_mem _ he, q⟩)
    have S3 := J3.suite he3 hd3 na nL nF
    have LT : PySem.W.Looks (model X.prog X.w) h3 (typeOf (.ref a)) cls := fun A Q E s k q => wpAny_typeOf_ref (k _ _ he3) (by rw [hz3.1]; exact q)
    have test : ∀ {x : Str} {c : Value} {np : Pos} {Q : Value → Shared → Prop} {E : Value → Shared → Prop}, Names X x c → Q c { s' with heap := h3 } → wpAny (model X.prog X.w) (X.A.mark (some (.ref a))) (eval (.Name x np) X.env) Q E { s' with heap := h3 } := fun {x c np Q E} hc q => by
      obtain ⟨hg, hdbg, hm | ⟨hm, hv, hnn⟩⟩ := hc
      · exact ld_glob (X := X.suite a ((a, oe3) :: (X.pn ++ pins))) S3 hg hm q hdbg
      · exact ld_blt (X := X.suite a ((a, oe3) :: (X.pn ++ pins))) S3 hg hm hv q hnn hdbg
    have go : ∀ {hds' : List ExceptHandler} {l' : List Cl}, MixOk X hds' l' → wMix X.K Wout D l' cls d σ' H' → wpAny (model X.prog X.w) X.A (handleBy (.ref a) X.env hds') (SP X pins D) X.xe { s' with heap := h3 } := by
      intro hds' l' hk
      induction hk with
      | nil =>
        intro w
        refine wpAny_handleBy_nil ?_
        obtain ⟨k1, k2, k3, oe, vs, T, oT, ts', he, hz, hd, h1, hr⟩ := id fl3
        unfold PySem.passOn
        refine wpAny_bind (wpAny_field he hd h1 ?_)
        rw [if_neg (show ¬ ((Value.ref T == Value.none) = true) from by simp)]
        have fin : wpAny (model X.prog X.w) X.A (setFlight (.ref a) X.env.frame) (fun _ s4 => wpAny (model X.prog X.w) X.A (throw (.ref a) : Sem Flow) (SP X pins D) X.xe s4) X.xe { s' with heap := h3 } := by
          rw [hf]
          refine HandSPX.setFlight_upZ fl3 fun h4 hh4 up4 => wpAny_throw (tk _ _ ?_)
          exact ⟨a, B, sI, pins, σ', H', cls, d, rfl, J, nb, (up.trans up3).trans up4, .inr (.inr (by rw [hs]; exact hh4)), na, os, ag, w⟩
        first
          | exact wpAny_bind (wpAny_pure (wpAny_bind fin))
          | exact wpAny_bind fin
      | @bare x c ts b₀ suite np pos' hds2 l2 hc hsu r ih =>
        intro w
        obtain ⟨b, hb1, hyes, hno⟩ := w
        refine wpAny_handleBy_cons (codeAny_handlers_test ?_) (by intro q; cases q)
        refine test hc ((PySem.W.exm_one (M := model X.prog X.w) (J3.kIn) LT hb1).here ?_)
        cases b with
        | true =>
          refine codeAny_handlers_suite (HandSPX.lands_againZ fl3 fun h4 fl4 up4 => ?_)
          have J4 : Inv X pins σ' H' { s' with heap := h4 } := J.landed nb fl4.1 ((up.trans up3).trans up4) os ag
          obtain ⟨oe4, vs4, he4, hz4, hd4⟩ := fl4.there
          refine wpAny_mono ((hsu a oe4 cls d (X.pn ++ pins) hz4 ⟨_, hd4⟩).run [] _ _ H' _ (J4.suite he4 hd4 na nL nF) (hyes rfl a na)) (fun f s6 hsp => ?_) (fun _ _ z => False.elim z)
          cases f with
          | next => obtain ⟨σ6, H6, S6, q6⟩ := hsp; exact ⟨_, _, S6.unsuite ok, q6⟩
          | brk => obtain ⟨σ6, H6, S6, q6⟩ := hsp; exact ⟨_, _, S6.unsuite ok, q6⟩
          | cont => obtain ⟨σ6, H6, S6, q6⟩ := hsp; exact ⟨_, _, S6.unsuite ok, q6⟩
          | ret u => obtain ⟨v6, σ6, H6, S6, r6, q6⟩ := hsp; exact ⟨_, _, _, S6.unsuite ok, r6, q6⟩
        | false =>
          show wpAny _ X.A (handleBy (.ref a) X.env hds2) _ _ _
          exact ih (hno rfl)
      | @as x n i c ts b₀ suite np pos' hds2 l2 hN hi hln hc hsu r ih =>
        intro w
        obtain ⟨b, hb1, hyes, hno⟩ := w
        have hloc : Loc X.env.scope n := .inl hln
        refine wpAny_handleBy_cons (codeAny_handlers_test ?_) (by intro q; cases q)
        refine test hc ((PySem.W.exm_one (M := model X.prog X.w) (J3.kIn) LT hb1).here ?_)
        cases b with
        | true =>
          refine codeAny_handlers_suite_as (HandSPX.lands_againZ fl3 fun h4 fl4 up4 => ?_)
          have J4 : Inv X pins σ' H' { s' with heap := h4 } := J.landed nb fl4.1 ((up.trans up3).trans up4) os ag
          obtain ⟨oe4, vs4, he4, hz4, hd4⟩ := fl4.there
          have S4 := J4.suite he4 hd4 na nL nF
          refine store_ok (X := X.suite a ((a, oe4) :: (X.pn ++ pins))) (v := .ref a) S4 hN hi hloc rfl (fun s5 S5 => ?_) (.inr hln)
          refine wpAny_mono ((hsu a oe4 cls d (X.pn ++ pins) hz4 ⟨_, hd4⟩).run [] s5 _ H' _ S5 (hyes rfl a na)) (fun f s6 hsp => ?_) (fun _ _ z => False.elim z)
          have end_ : ∀ {σ6 : St} {H6 : Hp} {Q : Shared → Prop}, Inv (X.suite a ((a, oe4) :: (X.pn ++ pins))) [] σ6 H6 s6 → (∀ s7, Inv X pins (σ6.set i none) H6 s7 → Q s7) → wpAny (model X.prog X.w) X.A (do bindName X.env n .none; unbindBehindTheSuite X.env n pos') (fun _ s7 => Q s7) X.xe s6 := fun {σ6 H6 Q} S6 hq => gone_ok (S6.unsuite ok) hN hi hln hq
          cases f with
          | next => obtain ⟨σ6, H6, S6, q6⟩ := hsp; exact end_ S6 fun s7 J7 => ⟨_, _, J7, q6⟩
          | brk => obtain ⟨σ6, H6, S6, q6⟩ := hsp; exact end_ S6 fun s7 J7 => ⟨_, _, J7, q6⟩
          | cont => obtain ⟨σ6, H6, S6, q6⟩ := hsp; exact end_ S6 fun s7 J7 => ⟨_, _, J7, q6⟩
          | ret u => obtain ⟨v6, σ6, H6, S6, r6, q6⟩ := hsp; exact end_ S6 fun s7 J7 => ⟨_, _, _, J7, r6, q6⟩
        | false =>
          show wpAny _ X.A (handleBy (.ref a) X.env hds2) _ _ _
          exact ih (hno rfl)
    exact go hh w
  · cases f with
    | next => obtain ⟨σ', H', J', q⟩ := hsp; exact wpAny_execs_nil ⟨σ', H', J'.ofTry ok, q⟩
    | brk => obtain ⟨σ', H', J', q⟩ := hsp; exact ⟨σ', H', J'.ofTry ok, q⟩
    | cont => obtain ⟨σ', H', J', q⟩ := hsp; exact ⟨σ', H', J'.ofTry ok, q⟩
    | ret u => obtain ⟨v, σ', H', J', r, q⟩ := hsp; exact ⟨v, σ', H', J'.ofTry ok, r, q⟩
end
end L2

namespace K
open PySem PySem.Spec PyProof.Rows L2
/-- whether an error of the class at S is what «except C» names -/
theorem exm_pair {K : PySem.W.Frag} {S C : Addr} {b : Bool} (h1 : PySem.W.subIn K (.ref C) (.type "BaseException") = some true) (h2 : PySem.W.isClsIn K C = true) (h3 : PySem.W.typeIn K (.ref C) = some (.type "type")) (h4 : PySem.W.subIn K (.ref S) (.ref C) = some b) : PySem.W.exmOne K (.ref S) (.ref C) = some b := by
  have e1 : (PySem.W.subIn K (.ref C) (.type "BaseException") == some true) = true := by rw [h1] <;> rfl
  have e2 : ((PySem.W.clsIn K C).isSome && PySem.W.typeIn K (.ref C) == some (.type "type")) = true := by
    have h2' : (PySem.W.clsIn K C).isSome = true := h2
    rw [h2', h3] <;> rfl
  show (if (PySem.W.subIn K (.ref C) (.type "BaseException") == some true) = true then (if ((PySem.W.clsIn K C).isSome && PySem.W.typeIn K (.ref C) == some (.type "type")) = true then PySem.W.subIn K (.ref S) (.ref C) else none) else none) = some b
  rw [if_pos e1, if_pos e2]
  exact h4
/-- what the top has written of SlipError and its __init__ -/
structure SlipT (K : PySem.W.Frag) (mg : Str → Option Value) (CS fS : Addr) : Prop where
  g : mg "SlipError" = some (.ref CS)
  r : ClX.CRead K CS (.type "type")
  at_ : PySem.W.findCls K (.ref CS) (.type "type") "__init__" = some (.val (.ref fS))
  kp : PySem.W.keepIn K (.ref fS) = true
  vV : PySem.W.findCls K (.type "ValueError") (.type "type") "__init__" = some (.val (.builtin "ValueError.__init__"))
  mV : mg "ValueError" = none
/-- .. of a refusal's class x at C, its __init__ at fI -/
structure ExcT (K : PySem.W.Frag) (mg : Str → Option Value) (x : Str) (C fI : Addr) : Prop where
  g : mg x = some (.ref C)
  oex : OexC K C
  xf : XfC K C
  iC : PySem.W.findIn K (.ref C) "__init__" = some (some (.ref fI))
  tI : PySem.W.typeIn K (.ref fI) = some (.type "function")
  word : PySem.W.findIn K (.ref C) "word" = some none
def spSlip (K : PySem.W.Frag) : Sp := fun vs H Q _ => ∃ (a C : Addr) (w y : Str), vs = [.ref a, .str w, .str y] ∧ OexC K C ∧ PySem.W.findIn K (.ref C) "word" = some none ∧ H a = some (exo a C none) ∧
  ∀ dx, H dx = none → dx ≠ a → Q .non (upd (upd H dx (exd dx [("word", .str w)])) a (exo a C (some dx)))
/-- C(v): the exception at a gets its fields, newest first, in a new dict; all else stands -/
def spIn1 (K : PySem.W.Frag) (f wd : Str) (ask : Hp → V → Prop) (got : Hp → Hp → V → V → Prop) : Sp := fun vs H Q _ => ∃ (a C : Addr) (v : V), vs = [.ref a, v] ∧ ask H v ∧ OexC K C ∧ PySem.W.findIn K (.ref C) "word" = some none ∧ PySem.W.findIn K (.ref C) f = some none ∧ H a = some (exo a C none) ∧
  ∀ (dx : Addr) (v' : V) (H' : Hp), H dx = none → dx ≠ a → (∀ b o, H b = some o → b ≠ a → H' b = some o) → H' a = some (exo a C (some dx)) → H' dx = some (exd dx [(f, v'), ("word", .str wd)]) → got H H' v v' → Q .non H'
def askInt : Hp → V → Prop := fun _ v => ∃ i : Int, v = .int i ∧ i.natAbs.log2 < 1920
def gotSame : Hp → Hp → V → V → Prop := fun _ _ v v' => v' = v
/-- a list of digits -/
def askLot (K : PySem.W.Frag) : Hp → V → Prop := fun H v => ∃ (l : Addr) (ns : List Int), v = .ref l ∧ H l = some (.lst (ns.map V.int)) ∧ ns.length ≤ 100 ∧ ∀ n ∈ ns, 0 ≤ n ∧ n < 10
def gotLot : Hp → Hp → V → V → Prop := fun H0 H v v' => ∃ (l l' : Addr) (xs : List V), v = .ref l ∧ v' = .ref l' ∧ H l = some (.lst xs) ∧ H l' = some (.lst xs) ∧ l ≠ l' ∧ H0 l' = none
theorem ext_ne_lst {H : Hp} {a b : Addr} {C : Addr} {d : Option Addr} {xs : List V} (h : H a = some (exo a C d)) (h' : H b = some (.lst xs)) : b ≠ a := fun e => by
  subst e
  rw [h] at h'
  cases h'
section
variable {P : Program} {w : World} {K : PySem.W.Frag} {mg : Str → Option Value} {base : Heap}
theorem join2_le {c m : Str} (hc : (Str.empty ++ c).length ≤ 1000) (hm : m.length ≤ 2000) : ((Str.empty ++ c) ++ m).length ≤ sizeLine := by
  rw [strLen_append, sizeLine_eq]
  omega
theorem join3_le {c m e : Str} (hc : (Str.empty ++ c).length ≤ 1000) (hm : m.length ≤ 2000) (he : e.length ≤ 1000) : (((Str.empty ++ c) ++ m) ++ e).length ≤ sizeLine := by
  rw [strLen_append, strLen_append, sizeLine_eq]
  omega
/-- what a raise of such a refusal leaves -/
theorem raised_same {H H2 : Hp} {a d : Addr} {fs : List (Str × V)} (ha : H a = none) (k : ∀ b o, H b = some o → b ≠ a → H2 b = some o) (hd : H d = none) : Same H (upd (del H2 a) d (.xd fs)) := fun b o e => by
  have hb : b ≠ a := ne_of_none e ha
  rw [upd_ne (ne_of_none e hd), del_ne hb]
  exact k b o e hb
end
end K

namespace K
open PySem PySem.Spec PyProof.Rows L2
open Sw (T3 Dist at? relax roundOf rounds IsNext Cand IsFar nbr candL WayTo lotOf)
/-- a def that may raise, as it can be called -/
structure CalX (P : Program) (w : World) (K : PySem.W.Frag) (mg : Str → Option Value) (base : Heap) (k : Nat) (x : Str) (f : Addr) (fd : FuncData) (ps : List Str) (sp : Sp) : Prop where
  ok : FnOk P w K mg base (L2.CX P w) k f fd ps sp
  g : mg x = some (.ref f)
  kp : PySem.W.keepIn K (.ref f) = true
  b : Binds K fd ps []
/-- a refusal's class with the promise of its __init__ -/
structure ExcC (P : Program) (w : World) (K : PySem.W.Frag) (mg : Str → Option Value) (base : Heap) (k : Nat) (x : Str) (C fI : Addr) (fd : FuncData) (ps : List Str) (sp : Sp) : Prop where
  t : ExcT K mg x C fI
  ok : FnOk P w K mg base CX0 k fI fd ps sp
  b : Binds K fd ps []
/-- NoHouse(h), as it is in the air: its dict, new; all else stands -/
def HouseX (CH : Addr) (h : Int) (H : Hp) (E : XK) : Prop := ∀ (d : Addr) (H' : Hp), H d = none → Same H H' → H' d = some (.xd [("house", .int h), ("word", .str "nohouse")]) → E (.ref CH) (some d) H'
def LotX (CW : Addr) (wd : Str) (lot : List Nat) (H : Hp) (E : XK) : Prop := ∀ (d l : Addr) (H' : Hp), H d = none → H l = none → Same H H' → H' d = some (.xd [("lot", .ref l), ("word", .str wd)]) → H' l = some (.lst (lot.map fun h => V.int (h : Nat))) → E (.ref CW) (some d) H'
def spCheckX (CH : Addr) : Sp := fun vs H Q E => ∃ (n : Nat) (h : Int), vs = [.int (n : Nat), .int h] ∧ h.natAbs.log2 < 1920 ∧ (0 ≤ h ∧ h < n → Q .non H) ∧ (¬ (0 ≤ h ∧ h < n) → HouseX CH h H E)
def spReach : Sp := fun vs H Q _ => ∃ (n g : Nat) (t : Addr) (ts : List T3), vs = [.int (n : Nat), .ref t, .int (g : Nat)] ∧ g < n ∧ n ≤ 1000 ∧ TiesAt H t ts ∧ Fits n ts ∧ ∀ p H', H p = none → Same H H' → H' p = some (.lst ((lotOf n (farD n ts g)).map fun h => V.int (h : Nat))) → Q (.ref p) H'
/-- (price, way) -/
def PriceWay (H : Hp) (p : Addr) (c : Nat) (way : List Nat) : Prop := ∃ w : Addr, H p = some (.tup [.int (c : Nat), .ref w]) ∧ H w = some (.tup (way.map fun h => V.int (h : Nat)))
def spLeastX (CH CW : Addr) : Sp := fun vs H Q E => ∃ (n : Nat) (s g : Int) (t : Addr) (ts : List T3), vs = [.int (n : Nat), .ref t, .int s, .int g] ∧ n ≤ 9 ∧ s.natAbs.log2 < 1920 ∧ g.natAbs.log2 < 1920 ∧ TiesAt H t ts ∧ ts.length ≤ 400 ∧ Fits n ts ∧ (∀ e ∈ ts, 1 ≤ e.2.2 ∧ e.2.2 ≤ 9) ∧
  (¬ (0 ≤ s ∧ s < n) → HouseX CH s H E) ∧ (0 ≤ s ∧ s < n → ¬ (0 ≤ g ∧ g < n) → HouseX CH g H E) ∧
  (∀ s' g' : Nat, s = s' → g = g' → s' < n → g' < n → at? (farD n ts g') s' = none → LotX CW "noway" (lotOf n (farD n ts s')) H E) ∧
  (∀ (s' g' c : Nat) (way : List Nat), s = s' → g = g' → s' < n → g' < n → at? (farD n ts g') s' = some c → WayTo (both ts) (farD n ts g') g' s' way → way.length ≤ 100 → ∀ p H', H p = none → Same H H' → PriceWay H' p c way → Q (.ref p) H')
end K

/-! raising out of a named except suite; defs whose exceptions have no context; defs called while an exception is handled -/
namespace L2H
open PySem PySem.Spec PyProof.Rows L2 HotX
/-- the context of an except suite that may raise, its wish xe -/
abbrev suiteA (X : Cx) (a : Addr) (pn : List (Addr × Obj)) (xe : Value → Shared → Prop) : Cx := { X with A := X.A.mark (some (.ref a)), calm := false, pn := pn, xe := xe }
theorem tracedZ_sameBut {h h' base : Heap} {e L : Addr} {Z : Obj → Prop} {fl : Value} {m : Str → Option Value} (x : HandSPX.TracedZ h base e Z fl) (hn : h.Ns L m) (hs : Heap.SameBut L h h') : HandSPX.TracedZ h' base e Z fl := by
  obtain ⟨oe, vs, T, oT, ts, he, hc, hd, h1, hnT, hTe, hT, hdT, h3⟩ := x
  obtain ⟨oL, es, ep, hoL, hdL, _⟩ := hn
  have neE : e ≠ L := fun q => by
    rw [q, hoL] at he
    have z := Option.some.inj he
    rw [← z, hdL] at hd
    cases hd
  have neT : T ≠ L := fun q => by
    rw [q, hoL] at hT
    have z := Option.some.inj hT
    rw [← z, hdL] at hdT
    cases hdT
  exact ⟨oe, vs, T, oT, ts, (hs.2 e neE).trans he, hc, hd, h1, hnT, hTe, (hs.2 T neT).trans hT, hdT, h3⟩
section
variable {X : Cx} {pins : List (Addr × Obj)} {σ : L2.St} {H : Hp} {s : Shared} {i : Nat} {n : Str}
/-- the name's slot out of hand: any state that differs at the def's own names only -/
theorem inv_gone {h' : Heap} {v : Option Value} {m : Str → Option Value} {t' : Nat} (I : Inv X pins σ H s) (hN : X.N.Nodup) (hi : X.N[i]? = some n) (hn0 : s.heap.Ns X.env.locals m)
    (hn' : h'.Ns X.env.locals (fun x => if x = n then v else m x)) (hs : Heap.SameBut X.env.locals s.heap h') : Inv X pins (σ.set i none) H { s with heap := h', toks := t' } := by
  obtain ⟨mI, hnI, hlk⟩ := id I.loc
  have em : ∀ y, mI y = m y := fun y => by
    obtain ⟨o1, es1, ep1, e1, d1, k1, f1⟩ := hnI
    obtain ⟨o2, es2, ep2, e2, d2, k2, f2⟩ := hn0
    rw [e1] at e2
    cases e2
    rw [d1] at d2
    cases d2
    rw [← f1 y, ← f2 y]
  have neL : ∀ b o, X.s_0.heap.get? b = some o → b ≠ X.env.locals := fun b o e => Nat.ne_of_lt (Nat.lt_of_lt_of_le (Heap.lt_size e) I.ok.above)
  refine ⟨I.ok, I.os, I.bare, ⟨fun b o e n hb hx => ?_, fun b o e n hb hx => ?_, I.base.free, fun b o e hx => ?_, I.base.tups, I.base.frzs, I.base.tbls⟩, ⟨_, hn', fun j y v' e1 e2 e3 => ?_⟩, fun y c e => ?_, I.free, I.freeC, fun p hp => ?_, fun b ob e => ?_, by simpa using I.len⟩
  · exact (hs.2 b (neL b o e)).trans (I.base.keep b o e n hb hx)
  · obtain ⟨sl, e1⟩ := I.base.slot b o e n hb hx
    exact ⟨sl, (hs.2 b (neL b o e)).trans e1⟩
  · obtain ⟨o', e1⟩ := I.base.there b o e hx
    exact ⟨o', (hs.2 b (neL b o e)).trans e1⟩
  · by_cases hj : j = i
    · subst hj
      by_cases hlt : j < σ.length
      · rw [List.getElem?_set_self hlt] at e2; cases e2
      · rw [List.getElem?_eq_none (by simpa using hlt)] at e2; cases e2
    · rw [List.getElem?_set_ne (Ne.symm hj)] at e2
      obtain ⟨u', r', q⟩ := hlk j y v' e1 e2 e3
      refine ⟨u', r', ?_⟩
      rcases q with ⟨k, e⟩ | ⟨k, c, e, z⟩
      · have ny : y ≠ n := fun e => hj (nodup_ix hN e1 (e ▸ hi))
        exact .inl ⟨k, (if_neg ny).trans ((em y).symm.trans e)⟩
      · exact .inr ⟨k, c, e, z.sameBut hs (I.cne y c e)⟩
  · obtain ⟨w', z⟩ := I.cell y c e
    exact ⟨w', z.sameBut hs (I.cne y c e)⟩
  · obtain ⟨e, n, ne, nf, d⟩ := I.pin p hp
    exact ⟨(hs.2 p.1 ne).trans e, n, ne, nf, d⟩
  · refine (I.hok b ob e).stay (fun c w' hc q => (hs.2 c ?_).trans q) (fun _ q => q) fun _ _ q => q
    intro z
    subst z
    rcases hc with hc | hc
    · rw [← hc, I.free] at e; cases e
    · rw [I.free] at hc; cases hc
/-- what flies out of a named suite: it is noted, the name goes, it is passed on and comes back into the def's own activation -/
theorem takes_as {a : Addr} {q : Addr × Obj} {pos : Pos} {Wout : WX} {xe E₁ E₂ : Value → Shared → Prop} (hs : X.stack = X.env :: X.outer) (hf : X.env.frame = some X.env.locals) (hN : X.N.Nodup) (hi : X.N[i]? = some n) (hln : X.env.kindOf n = some .local) (tk : L2.Takes X Wout) (ok : X.Ok)
    {u : Value} {s' : Shared} (x : L2.XE (suiteA X a (q :: (X.pn ++ pins)) xe) (fun c d σ H => Wout c d (σ.set i none) H) u s') :
    wpAny (model X.prog X.w) (X.A.mark (some (.ref a))) (noteFrame u X.env) (fun _ s₃ => wpAny (model X.prog X.w) (X.A.mark (some (.ref a))) (do bindName X.env n .none; unbindBehindTheSuite X.env n pos)
      (fun _ s₄ => wpAny (model X.prog X.w) (X.A.mark (some (.ref a))) (passOn "try.except-as" u X.env : Sem Flow) (fun _ _ => False) (notedBy (model X.prog X.w) (X.A.mark (some (.ref a))) X.env (cameBackBy (model X.prog X.w) X.A X.env X.xe)) s₄) E₂ s₃) E₁ s' := by
  obtain ⟨a2, B, sI, pn2, σ, H, cls, d, rfl, I, nb, up, sky, na, os, ag, w⟩ := x
  have J : Inv X pins σ H sI := Inv.unsuite (X := X) (a := a) (q := q) (pn' := pn2) (show Inv (X.suite a (q :: (X.pn ++ pins))) pn2 σ H sI from I.wish fun _ _ => False) ok
  have hfr : (X.A.mark (some (.ref a))).frames = some (X.env :: X.outer) := by
    show X.A.frames = _
    rw [ok.frames, hs]
  have sky : Sky B (X.env :: X.outer) a2 (Zc cls d) X.env.locals s'.heap := by rw [← hs]; exact sky
  have nb : ∀ b o, sI.heap.get? b = some o → b ∉ frs X.stack → B.get? b = some o := nb
  have hcls : (X.env.scope.kind == .class || (X.env.scope.kind == .module && X.env.locals != X.env.globals)) = false := by rw [ok.kind]; rfl
  obtain ⟨mI, hnI, _⟩ := id J.loc
  have fin : ∀ h1, HandSPX.HeldZ B (X.env :: X.outer) a2 (Zc cls d) X.env.locals h1 → s'.heap.UpToSlots h1 → wpAny (model X.prog X.w) (X.A.mark (some (.ref a))) (do bindName X.env n .none; unbindBehindTheSuite X.env n pos)
      (fun _ s₄ => wpAny (model X.prog X.w) (X.A.mark (some (.ref a))) (passOn "try.except-as" (.ref a2) X.env : Sem Flow) (fun _ _ => False) (notedBy (model X.prog X.w) (X.A.mark (some (.ref a))) X.env (cameBackBy (model X.prog X.w) X.A X.env X.xe)) s₄) E₂ { s' with heap := h1 } := by
    intro h1 hh up1
    have upA := up.trans up1
    have hn : h1.Ns X.env.locals mI := upA.ns hnI
    have hbL : B.get? X.env.locals = none := by
      obtain ⟨_, ⟨L', _, hf', hb', _⟩, _⟩ := hh.2.2.1
      rw [hf] at hf'
      rw [Option.some.inj hf']
      exact hb'
    refine wpAny_nameGoes_keeps hln hn hcls fun h2 v hn2 hs2 => ?_
    have hh2 : HandSPX.HeldZ B (X.env :: X.outer) a2 (Zc cls d) X.env.locals h2 :=
      ⟨fun b o hb => (hs2.2 b fun z => by rw [z, hbL] at hb; cases hb).trans (hh.1 b o hb), hh.2.1, Heap.FunFrames.sameBut hs2 hn2 hh.2.2.1, tracedZ_sameBut hh.2.2.2 hn hs2⟩
    obtain ⟨oe, vs, T, oT, ts, he, hz, hd, h1', r⟩ := id hh2.2.2.2
    unfold PySem.passOn
    refine wpAny_bind (wpAny_field he hd h1' ?_)
    rw [if_neg (show ¬ ((Value.ref T == Value.none) = true) from by simp)]
    rw [hf]
    have go : wpAny (model X.prog X.w) (X.A.mark (some (.ref a))) (setFlight (.ref a2) (some X.env.locals)) (fun _ s4 => wpAny (model X.prog X.w) (X.A.mark (some (.ref a))) (throw (.ref a2) : Sem Flow) (fun _ _ => False) (notedBy (model X.prog X.w) (X.A.mark (some (.ref a))) X.env (cameBackBy (model X.prog X.w) X.A X.env X.xe)) s4) (notedBy (model X.prog X.w) (X.A.mark (some (.ref a))) X.env (cameBackBy (model X.prog X.w) X.A X.env X.xe)) { s' with heap := h2, toks := s'.toks + 1 } := by
      refine HandSPX.setFlight_onZ hh2 fun h3 hh3 up3 => wpAny_throw ?_
      show wpAny _ _ (noteFrame (.ref a2) X.env) _ _ _
      refine HandSPX.againZ hf hh3.2.2.2 ?_
      obtain ⟨oe3, vs3, T3, oT3, ts3, he3, hz3, hd3, h13, r3⟩ := id hh3.2.2.2
      show wpAny _ X.A (do
        if (← field (.ref a2) 1) == .none then unsupported "frame.own-activation:exception-without-traceback"
        setFlight (.ref a2) X.env.frame) _ _ _
      refine wpAny_bind (wpAny_field he3 hd3 h13 ?_)
      rw [if_neg (show ¬ ((Value.ref T3 == Value.none) = true) from by simp)]
      rw [hf]
      refine HandSPX.setFlight_onZ hh3 fun h4 hh4 up4 => tk _ _ ?_
      obtain ⟨oL, es, ep, hoL, hdL, hkL, hfL⟩ := id hn2
      obtain ⟨oI, esI, epI, hoI, hdI, _⟩ := id hnI
      have eL : (sI.heap.update X.env.locals fun _ => oL).get? X.env.locals = some oL := Heap.get?_update_self (fun _ => oL) hoI (Obj.isFreed_of_dict hdL)
      have eO : ∀ b, b ≠ X.env.locals → (sI.heap.update X.env.locals fun _ => oL).get? b = sI.heap.get? b := fun b hb => Heap.get?_update_other _ _ (Ne.symm hb)
      have J2 : Inv X pins (σ.set i none) H { sI with heap := sI.heap.update X.env.locals fun _ => oL, toks := sI.toks } :=
        inv_gone (t' := sI.toks) (m := mI) (v := v) J hN hi hnI ⟨oL, es, ep, eL, hdL, hkL, hfL⟩ (Heap.SameBut.update _ _ _)
      have upB := up3.trans up4
      refine ⟨a2, B, _, pins, _, H, cls, d, rfl, J2, fun b o e hb => ?_, fun b o e hnf => ?_, .inr (.inr (by rw [hs]; exact hh4)), na, os, ag, w⟩
      · have hbL2 : b ≠ X.env.locals := fun z => hb (by rw [z, hs]; exact List.mem_filterMap.mpr ⟨X.env, List.mem_cons_self, hf⟩)
        exact nb b o ((eO b hbL2).symm.trans e) hb
      · by_cases hbL2 : b = X.env.locals
        · subst hbL2
          have e' : some oL = some o := eL.symm.trans e
          cases e'
          exact upB _ _ hoL hnf
        · obtain ⟨sl, e1⟩ := upA b o ((eO b hbL2).symm.trans e) hnf
          obtain ⟨sl2, e2⟩ := upB b _ ((hs2.2 b hbL2).trans e1) hnf
          exact ⟨sl2, e2⟩
    first
      | exact wpAny_bind (wpAny_pure (wpAny_bind go))
      | exact wpAny_bind go
  rcases sky with ⟨hB, hn, hl, oe, vs, he, hz, hd, h1⟩ | fl | hh
  · exact HandSPX.look_newZ Zc.steady hfr hl hf he hB hn hd h1 hz fin
  · exact HandSPX.looks_onZ Zc.steady hfr hf fl fin
  · exact HandSPX.againZ hf hh.2.2.2 (fin s'.heap hh (Heap.UpToSlots.refl _))
end
section
variable {X : Cx} {x n : Str} {c : Value} {i : Nat} {body suite : List Stmt} {b₀ : Stmt} {np pos pos' : Pos} {tb : WX → TS} {ts : Addr → Value → Option Addr → TS} {Wout : WX}
/-- try: body, except x as n: suite that may raise out -/
theorem ps_try_asX (hs : X.stack = X.env :: X.outer) (hf : X.env.frame = some X.env.locals) (hN : X.N.Nodup) (hi : X.N[i]? = some n) (hln : X.env.kindOf n = some .local) (hc : Names X x c) (tk : L2.Takes X Wout)
    (hb : ∀ (W : WX) (pn : List (Addr × Obj)) (xe : Value → Shared → Prop), L2N.Takes (X.tr pn xe) W → PassesOwn (model X.prog X.w) X.A X.env xe → PSs (X.tr pn xe) body (tb W))
    (hsu : ∀ (a : Addr) (oe : Obj) (cls : Value) (d : Option Addr) (pn : List (Addr × Obj)) (xe : Value → Shared → Prop), L2N.Zn cls d oe → (∃ vs, oe.data = .fields vs) → L2.Takes (suiteA X a ((a, oe) :: pn) xe) (fun c d σ H => Wout c d (σ.set i none) H) → HotC (suiteA X a ((a, oe) :: pn) xe) →
      PSs (suiteA X a ((a, oe) :: pn) xe) (b₀ :: suite) (ts a cls d)) :
    PS X (.Try body [.ExceptHandler (some (.Name x np)) (some n) (b₀ :: suite) pos'] [] [] pos) (fun D σ H => tb (wAs X.K c i ts Wout D) D σ H) := by
  refine ⟨fun pins s σ H D I h => ?_⟩
  have ok := I.ok
  have hfr : X.A.frames = some (X.env :: X.outer) := by rw [ok.frames, hs]
  have hloc : Loc X.env.scope n := .inl hln
  refine wpAny_Try_except ?_
  refine wpAny_mono ((hb (wAs X.K c i ts Wout D) (X.pn ++ pins) (fun e s₁ => wpAny (model X.prog X.w) X.A (noteFrame e X.env) (fun _ s₂ => wpAny (model X.prog X.w) X.A (setFlight e none) (fun _ s₃ =>
    wpAny (model X.prog X.w) X.A (handleBy e X.env [.ExceptHandler (some (.Name x np)) (some n) (b₀ :: suite) pos']) (SP X pins D) X.xe s₃) X.xe s₂) X.xe s₁) (fun u s' xx => ?_) PassesOwn.looking).run [] s σ H D (I.toTry _) h) (fun f s1 hsp => ?_) (fun e s1 he => he)
  · obtain ⟨a, B, sI, pins', σ', H', cls, d, rfl, J', nb, up, sky, na, os, ag, b, hb1, hyes, hno⟩ := xx
    have J : Inv X pins σ' H' sI := J'.ofTry ok
    have sky' : Sky B (X.env :: X.outer) a (L2N.Zn cls d) X.env.locals s'.heap := by rw [← hs]; exact sky
    show wpAny (model X.prog X.w) X.A (noteFrame (.ref a) X.env) _ _ _
    refine L2N.Sky.land L2N.Zn.steady hfr hf sky' fun h3 fl3 up3 => ?_
    have J3 : Inv X pins σ' H' { s' with heap := h3 } := J.landed nb fl3.1 (up.trans up3) os ag
    obtain ⟨oe3, vs3, he3, hz3, hd3⟩ := fl3.there
    have nfr : a ∉ frs (X.env :: X.outer) := fun hm => by
      obtain ⟨_, o', e', hnf⟩ := fl3.2.2.1.mem hm
      rw [he3] at e'; cases e'
      exact hnf _ hd3
    have nL : a ≠ X.env.locals := fun z => nfr (List.mem_filterMap.mpr ⟨X.env, List.mem_cons_self, by rw [hf, z]⟩)
    have nF : a ∉ X.fs := fun hm => by
      obtain ⟨e, he, q⟩ := List.mem_filterMap.mp hm
      exact nfr (List.mem_filterMap.mpr ⟨e, List.mem_cons_of_mem _ he, q⟩)
    have S3 := J3.suite he3 hd3 na nL nF
    refine wpAny_handleBy_cons (codeAny_handlers_test ?_) (by intro q; cases q)
    have LT : PySem.W.Looks (model X.prog X.w) h3 (typeOf (.ref a)) cls := fun A Q E s k q => wpAny_typeOf_ref (k _ _ he3) (by rw [hz3.1]; exact q)
    have LM := PySem.W.exm_one (M := model X.prog X.w) (J3.kIn) LT hb1
    have test : ∀ {Q : Value → Shared → Prop} {E : Value → Shared → Prop}, Q c { s' with heap := h3 } → wpAny (model X.prog X.w) (X.A.mark (some (.ref a))) (eval (.Name x np) X.env) Q E { s' with heap := h3 } := fun {Q E} q => by
      obtain ⟨hg, hdbg, hm | ⟨hm, hv, hnn⟩⟩ := hc
      · exact ld_glob (X := X.suite a ((a, oe3) :: (X.pn ++ pins))) S3 hg hm q hdbg
      · exact ld_blt (X := X.suite a ((a, oe3) :: (X.pn ++ pins))) S3 hg hm hv q hnn hdbg
    refine test (LM.here ?_)
    cases b with
    | true =>
      refine codeAny_handlers_suite_as ?_
      refine HandSPX.lands_againZ fl3 fun h4 fl4 up4 => ?_
      have J4 : Inv X pins σ' H' { s' with heap := h4 } := J.landed nb fl4.1 ((up.trans up3).trans up4) os ag
      obtain ⟨oe4, vs4, he4, hz4, hd4⟩ := fl4.there
      have S4 := J4.suite he4 hd4 na nL nF
      refine store_ok (X := X.suite a ((a, oe4) :: (X.pn ++ pins))) (v := .ref a) S4 hN hi hloc rfl (fun s5 S5 => ?_) (.inr hln)
      have hot : ∀ xe, HotC (suiteA X a ((a, oe4) :: (X.pn ++ pins)) xe) := fun xe => ⟨(a, oe4), ⟨rfl, vs4, hd4, hz4.2.2 vs4 hd4⟩, List.mem_cons_self⟩
      have end_ : ∀ {σ6 : L2.St} {H6 : Hp} {s6 : Shared} {Q : Shared → Prop} {xe : Value → Shared → Prop} {E : Value → Shared → Prop}, Inv (suiteA X a ((a, oe4) :: (X.pn ++ pins)) xe) [] σ6 H6 s6 → (∀ s7, Inv X pins (σ6.set i none) H6 s7 → Q s7) → wpAny (model X.prog X.w) X.A (do bindName X.env n .none; unbindBehindTheSuite X.env n pos') (fun _ s7 => Q s7) E s6 := fun {σ6 H6 s6 Q xe E} S6 hq =>
        gone_ok (Inv.unsuite (X := X) (a := a) (q := (a, oe4)) (pn' := []) (show Inv (X.suite a ((a, oe4) :: (X.pn ++ pins))) [] σ6 H6 s6 from S6.wish fun _ _ => False) ok) hN hi hln hq
      refine wpAny_mono ((hsu a oe4 cls d (X.pn ++ pins) _ hz4 ⟨_, hd4⟩ (fun u s' x => takes_as (pins := pins) (pos := pos') hs hf hN hi hln tk ok x) (hot _)).run [] s5 _ H' _ (Inv.unwish (X := suiteA X a ((a, oe4) :: (X.pn ++ pins)) _) (E := fun _ _ => False) S5) (hyes rfl a na)) (fun f s6 hsp => ?_) (fun _ _ z => z)
      cases f with
      | next => obtain ⟨σ6, H6, S6, q6⟩ := hsp; exact end_ S6 fun s7 J7 => ⟨_, _, J7, q6⟩
      | brk => obtain ⟨σ6, H6, S6, q6⟩ := hsp; exact end_ S6 fun s7 J7 => ⟨_, _, J7, q6⟩
      | cont => obtain ⟨σ6, H6, S6, q6⟩ := hsp; exact end_ S6 fun s7 J7 => ⟨_, _, J7, q6⟩
      | ret u => obtain ⟨v6, σ6, H6, S6, r6, q6⟩ := hsp; exact end_ S6 fun s7 J7 => ⟨_, _, _, J7, r6, q6⟩
    | false =>
      show wpAny _ X.A (handleBy (.ref a) X.env []) _ _ _
      refine wpAny_handleBy_nil ?_
      have fl3' := flyingZ_imp (Z' := Zc cls d) (fun o z => z.zc) fl3
      obtain ⟨k1, k2, k3, oe, vs, T, oT, ts', he, hz, hd, h1, hr⟩ := id fl3'
      unfold PySem.passOn
      refine wpAny_bind (wpAny_field he hd h1 ?_)
      rw [if_neg (show ¬ ((Value.ref T == Value.none) = true) from by simp)]
      have fin : wpAny (model X.prog X.w) X.A (setFlight (.ref a) X.env.frame) (fun _ s4 => wpAny (model X.prog X.w) X.A (throw (.ref a) : Sem Flow) (SP X pins D) X.xe s4) X.xe { s' with heap := h3 } := by
        rw [hf]
        refine HandSPX.setFlight_upZ fl3' fun h4 hh4 up4 => wpAny_throw (tk _ _ ?_)
        exact ⟨a, B, sI, pins, σ', H', cls, d, rfl, J, nb, (up.trans up3).trans up4, .inr (.inr (by rw [hs]; exact hh4)), na, os, ag, hno rfl⟩
      first
        | exact wpAny_bind (wpAny_pure (wpAny_bind fin))
        | exact wpAny_bind fin
  · cases f with
    | next => obtain ⟨σ', H', J', q⟩ := hsp; exact wpAny_execs_nil ⟨σ', H', J'.ofTry ok, q⟩
    | brk => obtain ⟨σ', H', J', q⟩ := hsp; exact ⟨σ', H', J'.ofTry ok, q⟩
    | cont => obtain ⟨σ', H', J', q⟩ := hsp; exact ⟨σ', H', J'.ofTry ok, q⟩
    | ret u => obtain ⟨v, σ', H', J', r, q⟩ := hsp; exact ⟨v, σ', H', J'.ofTry ok, r, q⟩
end
end L2H
namespace L2
open PySem PySem.Spec PyProof.Rows L2H HotX
section
variable {P : Program} {w : World} {K : PySem.W.Frag} {mg : Str → Option Value} {base : Heap}
/-- as Fun.okX, for a def whose exceptions have no context -/
theorem Fun.okN {x qual : Str} {st : Stmt} {f : Addr} {fd : FuncData} {N ps : List Str} {k : Nat} {sp : Sp} (F : Fun K x qual st f fd) (S : FnScope N ps (defScope st)) (len : ∀ vs H Q E, sp vs H Q E → vs.length = ps.length)
    (hbody : ∀ (cdv : Value) (A : Around) (outer : List Env) (s : Shared) (H : Hp) (vs : List V) (Q : VK) (E : XK), Room k (A.deeper (envOfC qual (defScope st) s.heap.objs.size f cdv)) → sp vs H Q E →
      ∃ t, PSs (cxOf (L2N.CX P w) P w K mg base N qual (defScope st) f cdv A outer s H E) (defBody st) t ∧ t { nx := fun _ H' => Q .non H', rt := Q } (start N vs) H) : FnOk P w K mg base (L2N.CX P w) (k + 1) f fd ps sp := by
  obtain ⟨oc, od, kV, doc, pm, an, cdv, ct, osl, rfl, lk, hcd⟩ := F.ex
  exact fn_of lk hcd S len fun A outer s H vs Q E hr hsp => hbody cdv A outer s H vs Q E hr hsp
theorem FnOk.toX {k : Nat} {f : Addr} {fd : FuncData} {ps : List Str} {sp : Sp} (F : FnOk P w K mg base (L2N.CX P w) k f fd ps sp) : FnOk P w K mg base (L2.CX P w) k f fd ps sp :=
  ⟨F.len, fun A outer s H args us vs Q E hr e b r h => codeAny_mono (F.run A outer s H args us vs Q E hr e b r h) fun r s' q => by
    cases r with
    | error e =>
      obtain ⟨a, B, H', cls, d, e1, fl, hok, ub, na, os, ag, hE⟩ := q
      exact ⟨a, B, H', cls, d, e1, flyingZ_imp (fun o z => z.zc) fl, hok, ub, na, os, ag, hE⟩
    | ok fl => cases fl <;> exact q⟩
theorem _root_.L2H.RoomH.u2 {k : Nat} {A : Around} (r : RoomH k A) : A.units + 2 < cLine := by have := r.un; omega
/-- a def's promise while an exception is handled -/
theorem Fun.okH {x qual : Str} {st : Stmt} {f : Addr} {fd : FuncData} {N ps : List Str} {k : Nat} {sp : Sp} (F : Fun K x qual st f fd) (S : FnScope N ps (defScope st)) (len : ∀ vs H Q E, sp vs H Q E → vs.length = ps.length)
    (hbody : ∀ (cdv : Value) (A : Around) (outer : List Env) (s : Shared) (H : Hp) (vs : List V) (Q : VK) (E : XK) (p : Addr × Obj), Hot1 A p → RoomH k (A.deeper (envOfC qual (defScope st) s.heap.objs.size f cdv)) → sp vs H Q E →
      ∃ t, PSs (cxH CX0 P w K mg base N qual (defScope st) f cdv A outer s H E p).nox (defBody st) t ∧ t { nx := fun _ H' => Q .non H', rt := Q } (start N vs) H) : FnH P w K mg base CX0 (k + 1) f fd ps sp := by
  obtain ⟨oc, od, kV, doc, pm, an, cdv, ct, osl, rfl, lk, hcd⟩ := F.ex
  refine fn_ofH lk hcd S len fun A outer s H vs Q E p hp hr hsp => ?_
  obtain ⟨t, h, q⟩ := hbody cdv A outer s H vs Q E p hp hr hsp
  exact ⟨t, h.nox, q⟩
theorem FunD.okH {x qual : Str} {params : Arguments} {body : List Stmt} {scope : Scope} {dvs : List V} {f : Addr} {fd : FuncData} {N ps : List Str} {k : Nat} {sp : Sp} (F : FunD K x qual params body scope dvs [] f fd) (S : FnScope N ps scope) (len : ∀ vs H Q E, sp vs H Q E → vs.length = ps.length)
    (hbody : ∀ (cdv : Value) (A : Around) (outer : List Env) (s : Shared) (H : Hp) (vs : List V) (Q : VK) (E : XK) (p : Addr × Obj), Hot1 A p → RoomH k (A.deeper (envOfC qual scope s.heap.objs.size f cdv)) → sp vs H Q E →
      ∃ t, PSs (cxH CX0 P w K mg base N qual scope f cdv A outer s H E p).nox body t ∧ t { nx := fun _ H' => Q .non H', rt := Q } (start N vs) H) : FnH P w K mg base CX0 (k + 1) f fd ps sp := by
  obtain ⟨⟨oc, od, dV, kV, doc, pm, an, cdv, ct, osl, rfl, lk, hcd, _⟩, _⟩ := F
  refine fn_ofH lk hcd S len fun A outer s H vs Q E p hp hr hsp => ?_
  obtain ⟨t, h, q⟩ := hbody cdv A outer s H vs Q E p hp hr hsp
  exact ⟨t, h.nox, q⟩
end
theorem hotC_cxH {CX : CXT} {P : Program} {w : World} {K : PySem.W.Frag} {mg : Str → Option Value} {base : Heap} {N : List Str} {qual : Str} {scope : Scope} {f : Addr} {cd : Value} {A : Around} {outer : List Env} {s : Shared} {H : Hp} {E : XK} {p : Addr × Obj} (h : Hot1 A p) :
    HotC (cxH CX P w K mg base N qual scope f cd A outer s H E p).nox := ⟨p, ⟨h.1, h.2⟩, List.mem_cons_self⟩
section
variable {X : Cx}
/-- C.m(e, ..) while an exception is handled -/
theorem pe_clsfH {CX : CXT} {k : Nat} {C f : Addr} {fd : FuncData} {ps : List Str} {mc : Value} {sp : Sp} {E : XK} {o e : Expr} {es : List Expr} {m : Str} {pos apos : Pos} {ta : TE} {t : TA} {pl : Sem Bool} (he : PE X o ta) (r : ClX.CRead X.K C mc) (at_ : PySem.W.findCls X.K (.ref C) mc m = some (.val (.ref f)))
    (F : FnH X.prog X.w X.K X.mg X.base CX k f fd ps sp) (hr : RoomH k X.A) (hc : HotC X) (hk : PySem.W.keepIn X.K (.ref f) = true) (hb : Binds X.K fd ps []) (hx : ∀ σ, PassesAt CX X σ E) (ha : PA X (e :: es) t)
    (hst : starEach (e :: es) X.env = (false, eval e X.env) :: starEach es X.env := by rfl) (hpl : (backTo pos (starEach es X.env)).any (·.1) = false := by rfl)
    (ht : eval (.Call (.Attribute o m apos) (e :: es) [] pos) X.env = (do
      let ov ← eval o X.env
      standAt apos.atName
      let (f, first) ← holding [ov] (getMethod ov m pl)
      callWith pos f first (backTo pos (starEach (e :: es) X.env)) (backToKw pos (keywordEach [] X.env))) := by rfl) :
    PE X (.Call (.Attribute o m apos) (e :: es) [] pos) (tClsF C sp E ta t) := by
  refine ⟨fun pins s σ H Q I h => ?_⟩
  refine PySem.W.methodCall_KW (pl := pl) (thn (he.run pins s σ H _ I h) fun u s1 ⟨x, H1, I1, rx, ex, q⟩ => ?_) ht
  subst ex
  obtain rfl : u = Value.ref C := rx
  refine PySem.W.method_cls I1.kIn r.ga (ClX.getcval_ok (v := .ref f) I1 r ⟨at_, rfl⟩ fun s2 I2 => ?_)
  refine PySem.W.callWith_K (h₀ := X.base) I2.ok.mod.kin hk (thn (ha.run pos pins s2 σ H1 _ I2 q) fun us s3 ⟨vs, H2, I3, rv, q2⟩ => ⟨I3.kIn, ?_⟩) hst hpl
  exact run_fnH (E := fun _ => E) F hr hc hb (hx σ) I3 rv q2
/-- C(e, ..), an exception with no context -/
theorem pmkN_oex {CX : CXT} {x : Str} {e : Expr} {es : List Expr} {ta : TA} {p pos : Pos} {C fI : Addr} {k : Nat} {fd : FuncData} {ps : List Str} {sp : Sp} {ds : List Value} {dvs : List V} (T : OexC X.K C) (iC : PySem.W.findIn X.K (.ref C) "__init__" = some (some (.ref fI))) (tI : PySem.W.typeIn X.K (.ref fI) = some (.type "function"))
    (F1 : FnOk X.prog X.w X.K X.mg X.base CX k fI fd ps sp) (hr : Room (k + 1) X.A) (hb : Binds X.K fd ps ds) (hd : Vals dvs ds) (hx : Passes CX X (fun _ _ _ => False)) (hg : Gl X x) (hm : X.mg x = some (.ref C)) (ha : PA X (e :: es) ta)
    (hdb : (x == ("__debug__" : Str)) = false := by decide) (he : starEach (e :: es) X.env = (false, eval e X.env) :: starEach es X.env := by rfl) (hpl : (backTo pos (starEach es X.env)).any (·.1) = false := by rfl) :
    L2N.PMk X (.Call (.Name x p) (e :: es) [] pos) (tMkO C sp dvs ta) := by
  intro pins s σ H Q I h
  obtain ⟨nm, q, N, bs, bm, sn, sub, ab, col, dd, k0, k1, k2, k3, k5, hC, hbm⟩ := T.cls
  refine wpAny_Call_Name_kw (ld_glob I hg hm ?_ hdb)
  refine PySem.W.callWith_K (h₀ := X.base) I.ok.mod.kin T.kC (thn (ha.run pos pins s σ H _ I h) fun us s1 ⟨vs, H1, I1, r1, hz, q1⟩ => ⟨I1.kIn, ?_⟩) he hpl
  show wpAny _ _ (call (.ref C) us) _ _ _
  obtain ⟨hp, g, dr, tk, os⟩ := s1
  have hsz : hp.objs.size ≤ hp.objs.size + 1 := Nat.le_succ _
  have hn : H1 (hp.objs.size + 1) = none := I1.hok.fresh hsz
  have hq := q1 (hp.objs.size + 1) hn
  have kk : ∀ b o, hp.get? b = some o → ((hp.push (PySem.W.kdv_tup us)).push (PySem.HandSPX.excO C hp.objs.size)).get? b = some o := fun b o e => Heap.get?_push_of_some _ (Heap.get?_push_of_some _ e)
  have hget : ((hp.push (PySem.W.kdv_tup us)).push (PySem.HandSPX.excO C hp.objs.size)).get? (hp.objs.size + 1) = some (PySem.HandSPX.excO C hp.objs.size) := by heap_get
  have I2 : Inv X pins σ (upd H1 (hp.objs.size + 1) (exo (hp.objs.size + 1) C none)) ⟨(hp.push (PySem.W.kdv_tup us)).push (PySem.HandSPX.excO C hp.objs.size), g, dr, tk, os⟩ :=
    I1.laid (t' := tk) (a := hp.objs.size + 1) (o := exo (hp.objs.size + 1) C none) (h' := (hp.push (PySem.W.kdv_tup us)).push (PySem.HandSPX.excO C hp.objs.size)) kk hsz (exo_ok hget)
  have r2 : Vals (V.ref (hp.objs.size + 1) :: (vs ++ dvs)) (Value.ref (hp.objs.size + 1) :: (us ++ ds)) := .cons rfl (r1.append hd)
  have hl : (Value.ref (hp.objs.size + 1) :: us ++ ds).length = ps.length := by
    have e := r2.length
    rw [F1.len _ _ _ _ hq] at e
    exact e.symm
  have hus : us.length ≤ sizeLine := by
    rw [← Paired.length r1, sizeLine_eq]
    omega
  refine wpAny_call (PySem.HandSPX.call_own F.excBase_ValueError (fun Y => PySem.HandSPX.refsVE_contains Y bm hbm) (I1.kIn _ _ hC) (PySem.W.looks_findIn I1.kIn iC) (fun self => PySem.W.bind_fn I1.kIn self tI) hus
    (codeAny_mono (F1.run _ X.stack _ _ ⟨Value.ref (hp.objs.size + 1) :: us, []⟩ (Value.ref (hp.objs.size + 1) :: (us ++ ds)) _ _ (fun _ _ _ => False) (hr.make C us []) (I2.env0.make C us []) (hb _ (Value.ref (hp.objs.size + 1) :: us) I2.kIn hl) r2 hq) fun r s' hq' => ?_))
  cases r with
  | error er => exact hx pins σ _ _ er s' I2 hq'
  | ok fl =>
    cases fl with
    | ret u =>
      obtain ⟨v, H2, os2, bare2, un2, hok2, rv, ev, d, fs, ea, ed, hd1, q2⟩ := hq'
      subst ev
      obtain ⟨h2, g2, d2, t2, os'⟩ := s'
      obtain ⟨t0, G, J, kG, ge, hoe, na⟩ := mk_end0 (d2 := d2) (t2 := t2) I1 hsz kk un2 hok2 os2 bare2 ea ed hd1
      refine ⟨rv, hp.objs.size + 1, _, _, ⟨G, g2, d2, t2, os'⟩, _, .ref C, some d, rfl, J, kG, ge, hoe, ⟨rfl, rfl, fun vs hv => ?_⟩, rfl, rfl, na, rfl, bare2, raises_own T.exC T.tyC, q2⟩
      cases hv
      rfl
    | next => exact False.elim hq'
    | brk => exact False.elim hq'
    | cont => exact False.elim hq'
theorem pass0H {X : Cx} {E : XK} : ∀ σ, PassesAt CX0 X σ E := fun _ _ _ _ _ _ _ h => h.elim
end
end L2
namespace K
open PySem PySem.Spec PyProof.Rows L2
open Sw (T3 Dist at? relax roundOf rounds IsNext Cand IsFar nbr candL WayTo lotOf)
/-- a def whose exceptions have no context, as it can be called -/
structure CalN (P : Program) (w : World) (K : PySem.W.Frag) (mg : Str → Option Value) (base : Heap) (k : Nat) (x : Str) (f : Addr) (fd : FuncData) (ps : List Str) (sp : Sp) : Prop where
  ok : FnOk P w K mg base (L2N.CX P w) k f fd ps sp
  g : mg x = some (.ref f)
  kp : PySem.W.keepIn K (.ref f) = true
  b : Binds K fd ps []
theorem CalN.x {P : Program} {w : World} {K : PySem.W.Frag} {mg : Str → Option Value} {base : Heap} {k : Nat} {x : Str} {f : Addr} {fd : FuncData} {ps : List Str} {sp : Sp} (h : CalN P w K mg base k x f fd ps sp) : CalX P w K mg base k x f fd ps sp := ⟨h.ok.toX, h.g, h.kp, h.b⟩
/-- a refusal's class with the promise of its __init__ while an exception is handled -/
structure ExcH (P : Program) (w : World) (K : PySem.W.Frag) (mg : Str → Option Value) (base : Heap) (k : Nat) (x : Str) (C fI : Addr) (fd : FuncData) (ps : List Str) (sp : Sp) : Prop where
  t : ExcT K mg x C fI
  ok : L2H.FnH P w K mg base CX0 k fI fd ps sp
  b : Binds K fd ps []
/-- C(i, j) of two ints -/
def spIn2 (K : PySem.W.Frag) (f g wd : Str) : Sp := fun vs H Q _ => ∃ (a C : Addr) (i j : Int), vs = [.ref a, .int i, .int j] ∧ i.natAbs.log2 < 1920 ∧ j.natAbs.log2 < 1920 ∧ OexC K C ∧ PySem.W.findIn K (.ref C) "word" = some none ∧ PySem.W.findIn K (.ref C) f = some none ∧ PySem.W.findIn K (.ref C) g = some none ∧ H a = some (exo a C none) ∧
  ∀ (dx : Addr) (H' : Hp), H dx = none → dx ≠ a → (∀ b o, H b = some o → b ≠ a → H' b = some o) → H' a = some (exo a C (some dx)) → H' dx = some (exd dx [(g, .int j), (f, .int i), ("word", .str wd)]) → Q .non H'
def TieX (CT : Addr) (i j : Int) (H : Hp) (E : XK) : Prop := ∀ (d : Addr) (H' : Hp), H d = none → Same H H' → H' d = some (.xd [("other", .int j), ("one", .int i), ("word", .str "notie")]) → E (.ref CT) (some d) H'
/-- the ties but those that join u and v -/
def lft (ts : List T3) (u v : Nat) : List T3 := ts.filter fun e => !((e.1 == u && e.2.1 == v) || (e.2.1 == u && e.1 == v))
theorem lft_sub {ts : List T3} {u v : Nat} : ∀ e ∈ lft ts u v, e ∈ ts := fun e m => (List.mem_filter.mp m).1
theorem lft_len (ts : List T3) (u v : Nat) : (lft ts u v).length ≤ ts.length := List.length_filter_le _ _
theorem lft_fits {n : Nat} {ts : List T3} {u v : Nat} (h : Fits n ts) : Fits n (lft ts u v) := fun e m => h e (lft_sub e m)
theorem lft_good {n : Nat} {ts : List T3} {u v : Nat} (h : Good n ts) : Good n (lft ts u v) := fun e m => h e (lft_sub e m)
def spWithout : Sp := fun vs H Q _ => ∃ (u v : Nat) (t : Addr) (ts : List T3), vs = [.ref t, .int (u : Nat), .int (v : Nat)] ∧ TiesAt H t ts ∧ ts.length ≤ 400 ∧ ∀ p H', H p = none → Same H H' → TiesAt H' p (lft ts u v) → Q (.ref p) H'
def spRoundX (CH CT CL : Addr) : Sp := fun vs H Q E => ∃ (n : Nat) (s g : Int) (t : Addr) (ts : List T3), vs = [.int (n : Nat), .ref t, .int s, .int g] ∧ n ≤ 9 ∧ s.natAbs.log2 < 1920 ∧ g.natAbs.log2 < 1920 ∧ TiesAt H t ts ∧ ts.length ≤ 400 ∧ Fits n ts ∧ (∀ e ∈ ts, 1 ≤ e.2.2 ∧ e.2.2 ≤ 9) ∧
  (¬ (0 ≤ s ∧ s < n) → HouseX CH s H E) ∧ (0 ≤ s ∧ s < n → ¬ (0 ≤ g ∧ g < n) → HouseX CH g H E) ∧ (0 ≤ s ∧ s < n → g = s → TieX CT s g H E) ∧
  (∀ s' g' : Nat, s = s' → g = g' → s' < n → g' < n → s' ≠ g' → at? (farD n (lft ts s' g') g') s' = none → LotX CL "lone" (lotOf n (farD n (lft ts s' g') s')) H E) ∧
  (∀ (s' g' c : Nat) (way : List Nat), s = s' → g = g' → s' < n → g' < n → s' ≠ g' → at? (farD n (lft ts s' g') g') s' = some c → WayTo (both (lft ts s' g')) (farD n (lft ts s' g') g') g' s' way → way.length ≤ 100 → ∀ p H', H p = none → Same H H' → PriceWay H' p c way → Q (.ref p) H')
end K
namespace L2
open PySem PySem.Spec PyProof.Rows
section
variable {X : Cx}
/-- x not in a tuple of data -/
def rNotInDT (K : PySem.W.Frag) : R2 := fun x y H Q => ∃ d ds, Dp K H x d ∧ Dp K H y (.tuple ds) ∧ SeqAt.shaped d = true ∧ SeqAt.shaped (.tuple ds) = true ∧ Q (.bl (!ds.any fun z => PyData.eqv z d)) H
theorem op_notInDT (hu : X.A.units + 65 < cLine) : OpR X (compareOp .NotIn) (rNotInDT X.K) := by
  intro pins s σ H x y v u Q I rx ry h
  obtain ⟨d, ds, hd, he, sd, se, q⟩ := h
  obtain ⟨as, r1⟩ := Dp.reads I d x v hd rx
  obtain ⟨bs, r2⟩ := Dp.reads I (.tuple ds) y u he ry
  exact SeqAt.notIn_tuple_reads r2 r1 (SeqAt.canLay_of_shaped se) (SeqAt.canLay_of_shaped sd) (room_in_shaped sd hu) ⟨.bl _, H, I, rfl, q⟩
end
end L2
namespace K
open PySem PySem.Spec PyProof.Rows L2
def pairD (i j : Int) : PyData := .tuple [.int i, .int j]
theorem pair_shaped (i j : Int) : SeqAt.shaped (pairD i j) = true := by
  unfold SeqAt.shaped pairD
  simp [PyData.canLay0, PyData.canLayAll0, PyData.depth, PyData.depthAll]
theorem pairs_shaped (i j k l : Int) : SeqAt.shaped (.tuple [pairD i j, pairD k l]) = true := by
  unfold SeqAt.shaped pairD
  simp [PyData.canLay0, PyData.canLayAll0, PyData.depth, PyData.depthAll]
theorem pair_eqv (i j k l : Int) : PyData.eqv (pairD i j) (pairD k l) = decide (i = k ∧ j = l) := by
  simp [pairD, PyData.eqv, PyData.eqvAll, Bool.beq_eq_decide_eq]
theorem dp_pair {K : PySem.W.Frag} {H : Hp} {p : Addr} {i j : Int} (h : H p = some (.tup [.int i, .int j])) : Dp K H (.ref p) (pairD i j) := .tup (SqT.of h) (.cons (.int _) (.cons (.int _) .nil))
end K

/-! refusals held as values -/
namespace L2
open PySem PySem.Spec PyProof.Rows
/-- what a class must have for isinstance of its instances -/
structure IsC (K : PySem.W.Frag) (C : Addr) : Prop where
  cl : (PySem.W.clsIn K C).isSome = true
  ha : PySem.W.findIn K (.ref C) "__class__" = some (some (.builtin "object.__class__"))
  hn : PySem.W.specialIn K (.builtin "object.__class__") "__get__" = some (some (.builtin "getset_descriptor.__get__"))
  ht : PySem.W.takesIn K (.builtin "object.__class__") = some true
  hm : PySem.W.mroIn K C (.type "object") = some true
section
variable {X : Cx}
/-- a refusal that stands: its class, its fields -/
def ExAt (H : Hp) (a C : Addr) (fs : List (Str × V)) : Prop := ∃ dx, H a = some (exo a C (some dx)) ∧ H dx = some (exd dx fs)
theorem ExAt.same {H H' : Hp} {a C : Addr} {fs : List (Str × V)} (h : ExAt H a C fs) (s : ∀ b o, H b = some o → H' b = some o) : ExAt H' a C fs := by
  obtain ⟨dx, h1, h2⟩ := h
  exact ⟨dx, s _ _ h1, s _ _ h2⟩
theorem ExAt.put {H : Hp} {a C l : Addr} {fs : List (Str × V)} {xs ys : List V} (h : ExAt H a C fs) (hl : H l = some (.lst xs)) : ExAt (upd H l (.lst ys)) a C fs := by
  obtain ⟨dx, h1, h2⟩ := h
  refine ⟨dx, ?_, ?_⟩
  · rw [upd_ne (ne_of h1 hl (fun z => by cases z))]; exact h1
  · rw [upd_ne (ne_of h2 hl (fun z => by cases z))]; exact h2
/-- C(e, ..) as a value: R tells what is asked of the arguments -/
theorem pe_valG {CX : CXT} {R : List V → Hp → VK → Prop} {x : Str} {e : Expr} {es : List Expr} {ta : TA} {p pos : Pos} {C fI : Addr} {k : Nat} {fd : FuncData} {ps : List Str} {sp : Sp} (T : OexC X.K C) (iC : PySem.W.findIn X.K (.ref C) "__init__" = some (some (.ref fI))) (tI : PySem.W.typeIn X.K (.ref fI) = some (.type "function"))
    (F1 : FnOk X.prog X.w X.K X.mg X.base CX k fI fd ps sp) (hr : Room (k + 1) X.A) (hb : Binds X.K fd ps []) (hx : Passes CX X (fun _ _ _ => False)) (hg : Gl X x) (hm : X.mg x = some (.ref C)) (ha : PA X (e :: es) ta) (hR : ∀ vs H1 Q, R vs H1 Q → vs.length ≤ 1000 ∧ ∀ a, H1 a = none → sp (.ref a :: vs) (upd H1 a (exo a C none)) (fun v H2 => v = .non ∧ Q (.ref a) H2) (fun _ _ _ => False))
    (hdb : (x == ("__debug__" : Str)) = false := by decide) (he : starEach (e :: es) X.env = (false, eval e X.env) :: starEach es X.env := by rfl) (hpl : (backTo pos (starEach es X.env)).any (·.1) = false := by rfl) :
    PE X (.Call (.Name x p) (e :: es) [] pos) (fun σ H Q => ta σ H fun vs H1 => R vs H1 Q) := by
  refine ⟨fun pins s σ H Q I h => ?_⟩
  obtain ⟨nm, q, N, bs, bm, sn, sub, ab, col, dd, k0, k1, k2, k3, k5, hC, hbm⟩ := T.cls
  refine wpAny_Call_Name_kw (ld_glob I hg hm ?_ hdb)
  refine PySem.W.callWith_K (h₀ := X.base) I.ok.mod.kin T.kC (thn (ha.run pos pins s σ H _ I h) fun us s1 ⟨vs, H1, I1, r1, rr⟩ => ⟨I1.kIn, ?_⟩) he hpl
  obtain ⟨hz, q1⟩ := hR _ _ _ rr
  show wpAny _ _ (call (.ref C) us) _ _ _
  obtain ⟨hp, g, dr, tk, os⟩ := s1
  have hsz : hp.objs.size ≤ hp.objs.size + 1 := Nat.le_succ _
  have hn : H1 (hp.objs.size + 1) = none := I1.hok.fresh hsz
  have hq := q1 (hp.objs.size + 1) hn
  have kk : ∀ b o, hp.get? b = some o → ((hp.push (PySem.W.kdv_tup us)).push (PySem.HandSPX.excO C hp.objs.size)).get? b = some o := fun b o e => Heap.get?_push_of_some _ (Heap.get?_push_of_some _ e)
  have hget : ((hp.push (PySem.W.kdv_tup us)).push (PySem.HandSPX.excO C hp.objs.size)).get? (hp.objs.size + 1) = some (PySem.HandSPX.excO C hp.objs.size) := by heap_get
  have I2 : Inv X pins σ (upd H1 (hp.objs.size + 1) (exo (hp.objs.size + 1) C none)) ⟨(hp.push (PySem.W.kdv_tup us)).push (PySem.HandSPX.excO C hp.objs.size), g, dr, tk, os⟩ :=
    I1.laid (t' := tk) (a := hp.objs.size + 1) (o := exo (hp.objs.size + 1) C none) (h' := (hp.push (PySem.W.kdv_tup us)).push (PySem.HandSPX.excO C hp.objs.size)) kk hsz (exo_ok hget)
  have r2 : Vals (V.ref (hp.objs.size + 1) :: vs) (Value.ref (hp.objs.size + 1) :: us) := .cons rfl r1
  have hl : (Value.ref (hp.objs.size + 1) :: us ++ []).length = ps.length := by
    have e := r2.length
    rw [F1.len _ _ _ _ hq] at e
    rw [List.append_nil]
    exact e.symm
  have hus : us.length ≤ sizeLine := by
    rw [← Paired.length r1, sizeLine_eq]
    omega
  have b2 := hb _ (Value.ref (hp.objs.size + 1) :: us) I2.kIn hl
  rw [List.append_nil] at b2
  refine wpAny_call (PySem.HandSPX.call_own F.excBase_ValueError (fun Y => PySem.HandSPX.refsVE_contains Y bm hbm) (I1.kIn _ _ hC) (PySem.W.looks_findIn I1.kIn iC) (fun self => PySem.W.bind_fn I1.kIn self tI) hus
    (codeAny_mono (F1.run _ X.stack _ _ ⟨Value.ref (hp.objs.size + 1) :: us, []⟩ (Value.ref (hp.objs.size + 1) :: us) _ _ (fun _ _ _ => False) (hr.make C us []) (I2.env0.make C us []) b2 r2 hq) fun r s' hq' => ?_))
  cases r with
  | error er => exact hx pins σ _ _ er s' I2 hq'
  | ok fl =>
    cases fl with
    | ret u =>
      obtain ⟨v, H2, J, rv, ev, q2⟩ := I2.after hq'
      subst ev
      exact ⟨rv, .ref (hp.objs.size + 1), H2, J, rfl, q2⟩
    | next => exact False.elim hq'
    | brk => exact False.elim hq'
    | cont => exact False.elim hq'
/-- e.f of such a value -/
def tXv (K : PySem.W.Frag) (f : Str) (te : TE) : TE := fun σ H Q => te σ H fun x H1 => ∃ (a C : Addr) (fs : List (Str × V)) (v : V), x = .ref a ∧ XfC K C ∧ PySem.W.findIn K (.ref C) f = some none ∧ ExAt H1 a C fs ∧ fs.lookup f = some v ∧ Q v H1
theorem inst_exo {P : Program} {w : World} {H : Hp} {h : Heap} {a C dx : Addr} {fs : List (Str × V)} (hok : HOk P w H h) (ha : H a = some (exo a C (some dx))) (hd : H dx = some (exd dx fs)) :
    ∃ (oe od : Obj) (mA : Str → Option Value), PySem.W.InstAt h a oe C (some od) ∧ (∀ name, PySem.W.lookIn name od = some (mA name)) ∧ ∀ f, RelO (fs.lookup f) (mA f) := by
  obtain ⟨t1, he⟩ := exo_at hok ha
  obtain ⟨mA, hns, hr⟩ := exd_at hok hd
  obtain ⟨od, ho, hl⟩ := lookIn_ns hns
  exact ⟨_, od, mA, ⟨he, rfl, rfl, ho⟩, hl, hr⟩
theorem pe_xv {e : Expr} {te : TE} {pos : Pos} {n : Str} (he : PE X e te) (hb : attributeBase e n X.env (eval e X.env) = eval e X.env := by rfl) : PE X (.Attribute e n pos) (tXv X.K n te) := by
  refine ⟨fun pins s σ H Q I h => ?_⟩
  refine attr_of hb (thn (he.run pins s σ H _ I h) fun u s1 hh => ?_)
  obtain ⟨x, H1, I1, rx, a, C, fs, v, ex, T, hno, ⟨dx, ha, hd⟩, l, q⟩ := hh
  subst ex
  obtain rfl : u = Value.ref a := rx
  obtain ⟨oe, od, mA, J, hl, hr⟩ := inst_exo I1.hok ha hd
  obtain ⟨u, hu, ru⟩ := RelO.some_of (v := v) (o := mA n) (by rw [← l]; exact hr n)
  exact HandSPX.exc_get I1.kIn J T.ga T.gg T.exC (PySem.W.findObj_own T.hdC hno rfl (by rw [hl, hu])) (handed_of ru) ⟨v, H1, I1.tok _, ru, q⟩
theorem pe_xvK {K' : PySem.W.Frag} {e : Expr} {te : TE} {pos : Pos} {n : Str} (hK : X.K = K') (he : PE X e te) (hb : attributeBase e n X.env (eval e X.env) = eval e X.env := by rfl) : PE X (.Attribute e n pos) (tXv K' n te) := hK ▸ pe_xv he hb
/-- isinstance(e, c) of such a value -/
def rIsV (K : PySem.W.Frag) : List V → Hp → VK → Prop := fun xs H Q => ∃ (a C : Addr) (fs : List (Str × V)) (c : V) (cv : Value) (b : Bool), xs = [.ref a, c] ∧ XfC K C ∧ IsC K C ∧ ExAt H a C fs ∧ (∀ u, RelV c u → u = cv) ∧ PySem.W.kitOne K (.ref C) cv = some b ∧ Q (.bl b) H
theorem call_isV : CallR X (.builtin "isinstance") (rIsV X.K) := by
  intro pins s σ H xs us Q I r h
  obtain ⟨a, C, fs, c, cv, b, rfl, T, S, ⟨dx, ha, hd⟩, hcv, e, q⟩ := h
  cases r with
  | cons rx rr =>
    cases rr with
    | cons rt rr =>
      cases rr
      cases rx
      have ec := hcv _ rt
      subst ec
      obtain ⟨oe, od, mA, J, hl, hr⟩ := inst_exo I.hok ha hd
      exact PySem.W.kia_one (PySem.W.kitx_exc S.cl T.ga T.gg T.exC S.ha S.hn S.ht S.hm) I.kIn J e (fun z => nomatch z) fun tk => ⟨.bl b, H, I.kept (t' := tk) fun _ _ z => z, rfl, q⟩
end
end L2
namespace K
open PySem PySem.Spec PyProof.Rows L2
def askStr : Hp → V → Prop := fun _ v => ∃ y : Str, v = .str y ∧ y.length ≤ 1000
def spInS (K : PySem.W.Frag) (f g wd : Str) : Sp := fun vs H Q _ => ∃ (a C : Addr) (i : Int) (y : Str), vs = [.ref a, .int i, .str y] ∧ i.natAbs.log2 < 1920 ∧ y.length ≤ 1000 ∧ OexC K C ∧ PySem.W.findIn K (.ref C) "word" = some none ∧ PySem.W.findIn K (.ref C) f = some none ∧ PySem.W.findIn K (.ref C) g = some none ∧ H a = some (exo a C none) ∧
  ∀ (dx : Addr) (H' : Hp), H dx = none → dx ≠ a → (∀ b o, H b = some o → b ≠ a → H' b = some o) → H' a = some (exo a C (some dx)) → H' dx = some (exd dx [(g, .str y), (f, .int i), ("word", .str wd)]) → Q .non H'
theorem free_upd {H : Hp} {a b : Addr} {o : HO} (h : (upd H a o) b = none) : H b = none := by
  by_cases e : b = a
  · subst e
    rw [upd_same] at h
    cases h
  · rwa [upd_ne e] at h
section
variable {X : Cx} {x : Str} {p pos : Pos} {C fI : Addr} {k : Nat} {fd : FuncData}
/-- C(e), one field -/
def rNew1 (C : Addr) (f wd : Str) (ask : Hp → V → Prop) (got : Hp → Hp → V → V → Prop) : List V → Hp → VK → Prop := fun vs H Q => ∃ v, vs = [v] ∧ ask H v ∧ ∀ (a : Addr) (v' : V) (H' : Hp), H a = none → Same H H' → ExAt H' a C [(f, v'), ("word", .str wd)] → got H H' v v' → Q (.ref a) H'
structure Mono (ask : Hp → V → Prop) (got : Hp → Hp → V → V → Prop) : Prop where
  a : ∀ H H' v, Same H H' → ask H v → ask H' v
  g : ∀ H H0 H' v v', (∀ b, H0 b = none → H b = none) → got H0 H' v v' → got H H' v v'
theorem monoI : Mono askInt gotSame := ⟨fun _ _ _ _ h => h, fun _ _ _ _ _ _ h => h⟩
theorem monoS : Mono askStr gotSame := ⟨fun _ _ _ _ h => h, fun _ _ _ _ _ _ h => h⟩
theorem monoL {K : PySem.W.Frag} : Mono (askLot K) gotLot := ⟨fun _ _ _ s ⟨l, ns, e, h, r⟩ => ⟨l, ns, e, s _ _ h, r⟩, fun _ _ _ _ _ hb ⟨l, l', xs, e1, e2, h1, h2, ne, h3⟩ => ⟨l, l', xs, e1, e2, h1, h2, ne, hb _ h3⟩⟩
theorem pe_new1 {f wd : Str} {e : Expr} {ta : TA} {ask : Hp → V → Prop} {got : Hp → Hp → V → V → Prop} (c : ExcC X.prog X.w X.K X.mg X.base k x C fI fd ["self", f] (spIn1 X.K f wd ask got)) (M : Mono ask got) (fl : PySem.W.findIn X.K (.ref C) f = some none) (hr : Room (k + 1) X.A) (hg : Gl X x) (ha : PA X [e] ta)
    (hdb : (x == ("__debug__" : Str)) = false := by decide) (he : starEach [e] X.env = (false, eval e X.env) :: starEach [] X.env := by rfl) (hpl : (backTo pos (starEach [] X.env)).any (·.1) = false := by rfl) :
    PE X (.Call (.Name x p) [e] [] pos) (fun σ H Q => ta σ H fun vs H1 => rNew1 C f wd ask got vs H1 Q) :=
  pe_valG (R := rNew1 C f wd ask got) c.t.oex c.t.iC c.t.tI c.ok hr c.b pass0 hg c.t.g ha (fun vs H1 Q ⟨v, e1, hask, q⟩ => by
    subst e1
    exact ⟨by simp, fun a na => ⟨a, C, v, rfl, M.a _ _ _ (same_upd na) hask, c.t.oex, c.t.word, fl, upd_same, fun dx v' H' ndx ne hk ha hd hgot => ⟨rfl, q a v' H' na (fun b o e => hk b o (by rw [upd_ne (ne_of_none e na)]; exact e) (ne_of_none e na)) ⟨dx, ha, hd⟩ (M.g _ _ _ _ _ (fun b => free_upd) hgot)⟩⟩⟩) hdb he hpl
/-- C(i, j), C(i, y) -/
def rNew2 (C : Addr) (f g wd : Str) : List V → Hp → VK → Prop := fun vs H Q => ∃ i j : Int, vs = [.int i, .int j] ∧ i.natAbs.log2 < 1920 ∧ j.natAbs.log2 < 1920 ∧ ∀ (a : Addr) (H' : Hp), H a = none → Same H H' → ExAt H' a C [(g, .int j), (f, .int i), ("word", .str wd)] → Q (.ref a) H'
def rNewS (C : Addr) (f g wd : Str) : List V → Hp → VK → Prop := fun vs H Q => ∃ (i : Int) (y : Str), vs = [.int i, .str y] ∧ i.natAbs.log2 < 1920 ∧ y.length ≤ 1000 ∧ ∀ (a : Addr) (H' : Hp), H a = none → Same H H' → ExAt H' a C [(g, .str y), (f, .int i), ("word", .str wd)] → Q (.ref a) H'
theorem pe_new2 {f g wd : Str} {e e2 : Expr} {ta : TA} (c : ExcC X.prog X.w X.K X.mg X.base k x C fI fd ["self", f, g] (spIn2 X.K f g wd)) (fl : PySem.W.findIn X.K (.ref C) f = some none) (gl : PySem.W.findIn X.K (.ref C) g = some none) (hr : Room (k + 1) X.A) (hg : Gl X x) (ha : PA X [e, e2] ta)
    (hdb : (x == ("__debug__" : Str)) = false := by decide) (he : starEach [e, e2] X.env = (false, eval e X.env) :: starEach [e2] X.env := by rfl) (hpl : (backTo pos (starEach [e2] X.env)).any (·.1) = false := by rfl) :
    PE X (.Call (.Name x p) [e, e2] [] pos) (fun σ H Q => ta σ H fun vs H1 => rNew2 C f g wd vs H1 Q) :=
  pe_valG (R := rNew2 C f g wd) c.t.oex c.t.iC c.t.tI c.ok hr c.b pass0 hg c.t.g ha (fun vs H1 Q ⟨i, j, e1, hi, hj, q⟩ => by
    subst e1
    exact ⟨by simp, fun a na => ⟨a, C, i, j, rfl, hi, hj, c.t.oex, c.t.word, fl, gl, upd_same, fun dx H' ndx ne hk ha hd => ⟨rfl, q a H' na (fun b o e => hk b o (by rw [upd_ne (ne_of_none e na)]; exact e) (ne_of_none e na)) ⟨dx, ha, hd⟩⟩⟩⟩) hdb he hpl
theorem pe_newS {f g wd : Str} {e e2 : Expr} {ta : TA} (c : ExcC X.prog X.w X.K X.mg X.base k x C fI fd ["self", f, g] (spInS X.K f g wd)) (fl : PySem.W.findIn X.K (.ref C) f = some none) (gl : PySem.W.findIn X.K (.ref C) g = some none) (hr : Room (k + 1) X.A) (hg : Gl X x) (ha : PA X [e, e2] ta)
    (hdb : (x == ("__debug__" : Str)) = false := by decide) (he : starEach [e, e2] X.env = (false, eval e X.env) :: starEach [e2] X.env := by rfl) (hpl : (backTo pos (starEach [e2] X.env)).any (·.1) = false := by rfl) :
    PE X (.Call (.Name x p) [e, e2] [] pos) (fun σ H Q => ta σ H fun vs H1 => rNewS C f g wd vs H1 Q) :=
  pe_valG (R := rNewS C f g wd) c.t.oex c.t.iC c.t.tI c.ok hr c.b pass0 hg c.t.g ha (fun vs H1 Q ⟨i, y, e1, hi, hj, q⟩ => by
    subst e1
    exact ⟨by simp, fun a na => ⟨a, C, i, y, rfl, hi, hj, c.t.oex, c.t.word, fl, gl, upd_same, fun dx H' ndx ne hk ha hd => ⟨rfl, q a H' na (fun b o e => hk b o (by rw [upd_ne (ne_of_none e na)]; exact e) (ne_of_none e na)) ⟨dx, ha, hd⟩⟩⟩⟩) hdb he hpl
end
/-- what all refusals have as values -/
structure ExcG (K : PySem.W.Frag) (CS C : Addr) : Prop where
  xf : XfC K C
  word : PySem.W.findIn K (.ref C) "word" = some none
  is : IsC K C
  k1 : PySem.W.kitOne K (.ref C) (.ref CS) = some true
  k2 : PySem.W.kitOne K (.ref C) (.type "ValueError") = some true
end K

/-! raise C(), a chain of three, methods that raise, sorted(dict) -/
namespace L2
open PySem PySem.Spec PyProof.Rows
section
variable {X : Cx}
theorem pmk_oex0 {CX : CXT} {x : Str} {p pos : Pos} {C fI : Addr} {k : Nat} {fd : FuncData} {ps : List Str} {sp : Sp} (T : OexC X.K C) (iC : PySem.W.findIn X.K (.ref C) "__init__" = some (some (.ref fI))) (tI : PySem.W.typeIn X.K (.ref fI) = some (.type "function"))
    (F1 : FnOk X.prog X.w X.K X.mg X.base CX k fI fd ps sp) (hr : Room (k + 1) X.A) (hb : Binds X.K fd ps []) (hx : Passes CX X (fun _ _ _ => False)) (hg : Gl X x) (hm : X.mg x = some (.ref C))
    (hdb : (x == ("__debug__" : Str)) = false := by decide) :
    PMk X (.Call (.Name x p) [] [] pos) (tMkO C sp [] tNil) := by
  intro pins s σ H1 Q I1 h
  obtain ⟨nm, q, N, bs, bm, sn, sub, ab, col, dd, k0, k1, k2, k3, k5, hC, hbm⟩ := T.cls
  refine wpAny_Call_Name_kw (ld_glob I1 hg hm ?_ hdb)
  refine PySem.W.callWith_K0 I1.kIn T.kC ?_
  obtain ⟨hz, q1⟩ := h
  show wpAny _ _ (call (.ref C) []) _ _ _
  obtain ⟨hp, g, dr, tk, os⟩ := s
  have hsz : hp.objs.size ≤ hp.objs.size + 1 := Nat.le_succ _
  have hn : H1 (hp.objs.size + 1) = none := I1.hok.fresh hsz
  have hq := q1 (hp.objs.size + 1) hn
  have kk : ∀ b o, hp.get? b = some o → ((hp.push (PySem.W.kdv_tup [])).push (PySem.HandSPX.excO C hp.objs.size)).get? b = some o := fun b o e => Heap.get?_push_of_some _ (Heap.get?_push_of_some _ e)
  have hget : ((hp.push (PySem.W.kdv_tup [])).push (PySem.HandSPX.excO C hp.objs.size)).get? (hp.objs.size + 1) = some (PySem.HandSPX.excO C hp.objs.size) := by heap_get
  have I2 : Inv X pins σ (upd H1 (hp.objs.size + 1) (exo (hp.objs.size + 1) C none)) ⟨(hp.push (PySem.W.kdv_tup [])).push (PySem.HandSPX.excO C hp.objs.size), g, dr, tk, os⟩ :=
    I1.laid (t' := tk) (a := hp.objs.size + 1) (o := exo (hp.objs.size + 1) C none) (h' := (hp.push (PySem.W.kdv_tup [])).push (PySem.HandSPX.excO C hp.objs.size)) kk hsz (exo_ok hget)
  have r2 : Vals [V.ref (hp.objs.size + 1)] [Value.ref (hp.objs.size + 1)] := .cons rfl .nil
  have hl : [Value.ref (hp.objs.size + 1)].length = ps.length := by
    have e := F1.len _ _ _ _ hq
    exact e
  have b2 := hb _ [Value.ref (hp.objs.size + 1)] I2.kIn (by rw [List.append_nil]; exact hl)
  rw [List.append_nil] at b2
  refine wpAny_call (PySem.HandSPX.call_own F.excBase_ValueError (fun Y => PySem.HandSPX.refsVE_contains Y bm hbm) (I1.kIn _ _ hC) (PySem.W.looks_findIn I1.kIn iC) (fun self => PySem.W.bind_fn I1.kIn self tI) (rest := []) (Nat.zero_le _)
    (codeAny_mono (F1.run _ X.stack _ _ ⟨[Value.ref (hp.objs.size + 1)], []⟩ [Value.ref (hp.objs.size + 1)] _ _ (fun _ _ _ => False) (hr.make C [] []) (I2.env0.make C [] []) b2 r2 hq) fun r s' hq' => ?_))
  cases r with
  | error er => exact hx pins σ _ _ er s' I2 hq'
  | ok fl =>
    cases fl with
    | ret u =>
      obtain ⟨v, H2, os2, bare2, un2, hok2, rv, ev, d, fs, ea, ed, hd1, q2⟩ := hq'
      subst ev
      obtain ⟨h2, g2, d2, t2, os'⟩ := s'
      exact ⟨rv, mk_end (raises_own T.exC T.tyC) I1 hsz kk un2 hok2 os2 bare2 ea ed hd1 q2⟩
    | next => exact False.elim hq'
    | brk => exact False.elim hq'
    | cont => exact False.elim hq'
theorem PS.nox {st : Stmt} {t : TS} (h : PS X.nox st t) : PS X st t := ⟨fun pins s σ H D I hw =>
  wpAny_mono (h.run pins s σ H D (I.wish _) hw) (fun _ _ q => q.unwish) fun _ _ z => False.elim z⟩
/-- a op b op' c op'' d -/
def tChain3 (r r' r'' : R2) (ta tb tc td : TE) : TE := fun σ H Q => ta σ H fun x H1 => tb σ H1 fun y H2 => r x y H2 fun z H3 => ∃ k, z = .bl k ∧
  (if k = true then tc σ H3 fun w' H4 => r' y w' H4 fun z2 H5 => ∃ k2, z2 = .bl k2 ∧ (if k2 = true then td σ H5 fun w2 H6 => r'' w' w2 H6 Q else Q (.bl false) H5) else Q (.bl false) H3)
theorem pe_chain3 {a b c d : Expr} {pos : Pos} {ta tb tc td : TE} {op op' op'' : CmpOp} {r r' r'' : R2} (ho : OpR X (compareOp op) r) (ho' : OpR X (compareOp op') r') (ho'' : OpR X (compareOp op'') r'') (ha : PE X a ta) (hb : PE X b tb) (hc : PE X c tc) (hd : PE X d td)
    (hm : lastMarks [op, op', op''] [b, c, d] = false := by with_unfolding_all rfl) : PE X (.Compare a [op, op', op''] [b, c, d] pos) (tChain3 r r' r'' ta tb tc td) := by
  refine ⟨fun pins s σ H Q I h => ?_⟩
  refine Compare_chain (thn (ha.run pins s σ H _ I h) fun v s1 ⟨x, H1, I1, r1, q1⟩ => chain_link (thn (hb.run pins s1 σ H1 _ I1 q1) fun u s2 ⟨y, H2, I2, r2, q2⟩ =>
    thn (ho pins s2 σ H2 x y v u _ I2 r1 r2 q2) fun dd s3 ⟨z, H3, I3, r3, k, e, q3⟩ => ?_)) hm
  subst e
  cases r3
  refine wpAny_truthy_bool ?_
  cases k with
  | false => exact ite_ff ⟨.bl false, H3, I3, rfl, q3⟩
  | true =>
    refine ite_tt (chain_link (thn (hc.run pins s3 σ H3 _ I3 q3) fun w' s4 ⟨z', H4, I4, r4, q4⟩ => thn (ho' pins s4 σ H4 y z' u w' _ I4 r2 r4 q4) fun d' s5 ⟨z2, H5, I5, r5, k2, e2, q5⟩ => ?_))
    subst e2
    cases r5
    refine wpAny_truthy_bool ?_
    cases k2 with
    | false => exact ite_ff ⟨.bl false, H5, I5, rfl, q5⟩
    | true => exact ite_tt (chain_last (thn (hd.run pins s5 σ H5 _ I5 q5) fun w2 s6 ⟨z3, H6, I6, r6, q6⟩ => ho'' pins s6 σ H6 z' z3 w' w2 Q I6 r4 r6 q6))
/-- o.m(e, ..), o.m() that may raise, in a try -/
def tMethX (C : Addr) (m : Str) (sp : Sp) (E : St → XK) (ta : TE) (t : TA) : TE := fun σ H Q => ta σ H fun x H1 => ∃ a dx fs, x = .ref a ∧ H1 a = some (.ins C dx fs) ∧ fs.lookup m = none ∧ t σ H1 fun vs H2 => sp (x :: vs) H2 Q (E σ)
variable {CX : CXT} {k : Nat} {f C : Addr} {fd : FuncData} {ps : List Str} {sp : Sp} {E : St → XK} {m : Str} {pos apos : Pos} {e o : Expr} {es : List Expr} {ta : TE} {t : TA}
theorem pe_methX {pl : Sem Bool} (he : PE X o ta) (c : Cls X.K C) (hm : Meth X.K C m f) (F : FnOk X.prog X.w X.K X.mg X.base CX k f fd ps sp) (hr : Room k X.A) (hb : Binds X.K fd ps []) (hx : ∀ σ, PassesAt CX X σ (E σ)) (ha : PA X (e :: es) t)
    (hst : starEach (e :: es) X.env = (false, eval e X.env) :: starEach es X.env := by rfl) (hpl : (backTo pos (starEach es X.env)).any (·.1) = false := by rfl)
    (ht : eval (.Call (.Attribute o m apos) (e :: es) [] pos) X.env = (do
      let ov ← eval o X.env
      standAt apos.atName
      let (f, first) ← holding [ov] (getMethod ov m pl)
      callWith pos f first (backTo pos (starEach (e :: es) X.env)) (backToKw pos (keywordEach [] X.env))) := by rfl) :
    PE X (.Call (.Attribute o m apos) (e :: es) [] pos) (tMethX C m sp E ta t) := by
  refine ⟨fun pins s σ H Q I h => ?_⟩
  refine PySem.W.methodCall_KW (pl := pl) (thn (he.run pins s σ H _ I h) fun u s1 ⟨x, H1, I1, rx, a, dx, fs, ex, ea, l, q⟩ => ?_) ht
  subst ex
  obtain rfl : u = Value.ref a := rx
  refine getmeth_ok I1 ea c hm l ?_
  refine PySem.W.callWith_K (first := [.ref a]) (h₀ := X.base) I.ok.mod.kin hm.kp (thn (ha.run pos pins s1 σ H1 _ I1 q) fun us s2 ⟨vs, H2, I2, r, q2⟩ => ⟨I2.kIn, ?_⟩) hst hpl
  exact run_fnS (us := .ref a :: us) (vs := .ref a :: vs) F hr hb (hx σ) I2 (.cons rfl r) q2
theorem pe_methX0 {pl : Sem Bool} (he : PE X o ta) (c : Cls X.K C) (hm : Meth X.K C m f) (F : FnOk X.prog X.w X.K X.mg X.base CX k f fd ps sp) (hr : Room k X.A) (hb : Binds X.K fd ps []) (hx : ∀ σ, PassesAt CX X σ (E σ))
    (ht : eval (.Call (.Attribute o m apos) [] [] pos) X.env = (do
      let ov ← eval o X.env
      standAt apos.atName
      let (f, first) ← holding [ov] (getMethod ov m pl)
      callWith pos f first (backTo pos (starEach [] X.env)) (backToKw pos (keywordEach [] X.env))) := by rfl) :
    PE X (.Call (.Attribute o m apos) [] [] pos) (tMethX C m sp E ta tNil) := by
  refine ⟨fun pins s σ H Q I h => ?_⟩
  refine PySem.W.methodCall_KW (pl := pl) (thn (he.run pins s σ H _ I h) fun u s1 ⟨x, H1, I1, rx, a, dx, fs, ex, ea, l, q⟩ => ?_) ht
  subst ex
  obtain rfl : u = Value.ref a := rx
  refine getmeth_ok I1 ea c hm l ?_
  exact PySem.W.callWith_K0 (first := [.ref a]) I1.kIn hm.kp (run_fnS (us := [.ref a]) (vs := [.ref a]) F hr hb (hx σ) I1 (.cons rfl .nil) q)
/-- sorted(d), d a dict with int keys, of any length -/
def rSortedDI : List V → Hp → VK → Prop := fun xs H Q => ∃ (a : Addr) (kvs : List (Key × V)) (ks : List Int), xs = [.ref a] ∧ Rd H a (.dK kvs) ∧ kvs.map (·.1) = ks.map Sum.inl ∧ ks.length ≤ sizeLine ∧
    ∀ (ys : List Int) (p : Addr), ys.Perm ks → ys.Pairwise (· ≤ ·) → H p = none → Q (.ref p) (upd H p (.lst (ys.map V.int)))
theorem call_sortedDA (hcalm : X.calm = true) : CallR X (.builtin "sorted") rSortedDI := by
  intro pins s σ H xs us Q I r q
  obtain ⟨a, kvs, ks, ex, hd, hks, h64, q⟩ := q
  subst ex
  obtain ⟨u, eu, rx⟩ := vals1 r
  subst eu
  cases rx
  obtain ⟨z, lo, vs, rel, dd⟩ := dk_rd I.hok hd
  obtain ⟨ep, hat⟩ := dd.dictAt
  have hkeys : vs.map (·.1) = ks.map Sum.inl := rel.keys.symm.trans hks
  have hl : vs.length = ks.length := by
    have e := congrArg List.length hkeys
    rw [List.length_map, List.length_map] at e
    exact e
  have h16 : vs.length ≤ sizeLine := by rw [hl]; exact h64
  refine Calls.call_function_entry PyProof.Rows.kind_sorted PyProof.Rows.plain_sorted PyProof.Rows.entry_sorted (PyProof.Rows.args_sorted1 _) ?_
  unfold Builtin.«sorted»
  refine wpAny_bind (m := checkCount "sorted" 1 1 _) (wpAny_pure ?_)
  refine wpAny_bind (PySem.W.kdu_collect (A := X.A.in1) (PySem.W.kdl_dict (knd := mixKind X.prog X.w) (kvs := vs) (ep := ep) lo) (I.ok.hd hcalm) hat h16 fun h' tk acc hk hacc => ?_)
  have hal : acc.toList.length = ks.length := by rw [Array.length_toList, hacc.1, hl]
  have hS : IntsAre acc.toList ks := ints_each hal fun j v e => by
    obtain ⟨k, x, e1, e2⟩ := hacc.2 j v (by rw [← Array.getElem?_toList]; exact e)
    have e3 : (vs.map (·.1))[j]? = some k := by rw [List.getElem?_map, e1]; rfl
    rw [hkeys, List.getElem?_map] at e3
    cases e4 : ks[j]? with
    | none => rw [e4] at e3; cases e3
    | some y =>
      rw [e4] at e3
      have e5 : Sum.inl y = k := Option.some.inj e3
      subst e5
      rcases keyIs_shape (show keyIs (Sum.inl y) v = true from e2) with ⟨i, t, ek, ev⟩ | ⟨z, t, ek, ev⟩
      · cases ek
        exact ⟨y, t, rfl, ev⟩
      · cases ek
  have I1 : Inv X pins σ H { s with heap := h', toks := tk } := I.kept hk
  refine wpAny_bind (wpAny_newList ?_ (by rw [hal]; exact h64))
  have hoL : (h'.push (seqObj "list" acc.toList.toArray 0)).get? h'.objs.size = some (seqObj "list" acc.toList.toArray 0) := Heap.get?_push_size _ rfl
  show wpAny _ _ _ _ _ { s with heap := h'.push (seqObj "list" acc.toList.toArray 0), toks := tk }
  refine wpAny_bind (wpAny_holding (wpAny_call_entry PyProof.Rows.slot_list_sort ⟨_, hoL, rfl⟩ PyProof.Rows.entry_list_sort
    (SrtO.list_sort_ord (s := { s with heap := h'.push (seqObj "list" acc.toList.toArray 0), toks := tk }) SrtO.swo_int hoL (by rw [hal]; exact h64) (fun h2 => SrtO.ints_sortable hS h2) fun out g1 g2 => ⟨_, rfl, ?_⟩) (PyProof.Rows.args_list_sort _)))
  obtain ⟨k1, k2, k3⟩ := SrtO.ints_out hS g1 g2
  obtain ⟨e', he'⟩ := PyProof.Rows.sortedHeap_at (vs := acc.toList) (out := out.toArray) hoL
  have hlen : ((out.map SrtO.iv).map V.int).length ≤ sizeLine := by
    rw [List.length_map, k2.length_eq]
    exact h64
  refine wpAny_pure ⟨_, rfl, .ref h'.objs.size, upd H h'.objs.size (.lst ((out.map SrtO.iv).map V.int)), I1.laid (t' := tk) (fun b u e => ?_) (Nat.le_refl _)
    (show ObjOk X.prog X.w _ _ _ (.lst ((out.map SrtO.iv).map V.int)) from ⟨hlen, out, e', vals_of_ints k1, he'⟩), rfl, q _ _ k2 k3 (I1.hok.fresh (Nat.le_refl _))⟩
  have hb : b < h'.objs.size := Heap.lt_size e
  rw [PyProof.Rows.sortedHeap_old (Nat.ne_of_lt hb) (by rw [size_push']; exact Nat.lt_succ_of_lt hb)]
  exact Heap.get?_push_of_some _ e
end
end L2

/-! the numbers of one house: what stands, what is promised -/
namespace K
open PySem PySem.Spec PyProof.Rows L2
def heldK (us : List Int) : List (Key × V) := us.map fun i => (Sum.inl i, V.bl true)
theorem held_keys (us : List Int) : (heldK us).map (·.1) = us.map Sum.inl := by
  unfold heldK
  rw [List.map_map]
  rfl
theorem held_val (i : Int) : ∀ us : List Int, valV (heldK us) (Sum.inl i) = if i ∈ us then some (.bl true) else none
  | [] => rfl
  | j :: us => by
    by_cases e : j = i
    · subst e
      rw [if_pos List.mem_cons_self]
      exact valV_pos rfl
    · have e2 : ¬ (Sum.inl j : Key) = Sum.inl i := fun z => e (Sum.inl.inj z)
      rw [show heldK (j :: us) = (Sum.inl j, V.bl true) :: heldK us from rfl, valV_neg e2, held_val i us]
      by_cases h : i ∈ us
      · rw [if_pos h, if_pos (List.mem_cons_of_mem _ h)]
      · rw [if_neg h, if_neg (fun z => by rcases List.mem_cons.mp z with q | q; exact e q.symm; exact h q)]
theorem held_in {i : Int} {us : List Int} (h : i ∈ us) : valV (heldK us) (Sum.inl i) = some (.bl true) := by rw [held_val, if_pos h]
theorem held_no {i : Int} {us : List Int} (h : ¬ i ∈ us) : valV (heldK us) (Sum.inl i) = none := by rw [held_val, if_neg h]
theorem held_put {i : Int} {us : List Int} (h : ¬ i ∈ us) : putK (heldK us) (Sum.inl i) (.bl true) = heldK (us ++ [i]) := by
  rw [putK_new _ (held_no h)]
  unfold heldK
  rw [List.map_append]
  rfl
theorem held_drop (i : Int) : ∀ us : List Int, us.Nodup → dropK (heldK us) (Sum.inl i) = heldK (us.erase i)
  | [], _ => rfl
  | j :: us, nd => by
    obtain ⟨n1, n2⟩ := List.nodup_cons.mp nd
    by_cases e : j = i
    · subst e
      rw [List.erase_cons_head, show heldK (j :: us) = (Sum.inl j, V.bl true) :: heldK us from rfl, dropK_pos rfl, dropK_no]
      rw [held_keys]
      intro z
      obtain ⟨x, hx, ex⟩ := List.mem_map.mp z
      cases ex
      exact n1 hx
    · have e2 : ¬ (Sum.inl j : Key) = Sum.inl i := fun z => e (Sum.inl.inj z)
      have e3 : (j == i) = false := by simpa using e
      rw [List.erase_cons_tail (by rw [e3]; exact Bool.false_ne_true), show heldK (j :: us) = (Sum.inl j, V.bl true) :: heldK us from rfl, dropK_neg e2, held_drop i us n2]
      rfl
/-- the numbers from x on, k of them, that are not among us -/
def spare (us : List Int) : Nat → Int → List Int
  | 0, _ => []
  | k + 1, x => if x ∈ us then spare us k (x + 1) else x :: spare us k (x + 1)
theorem spare_s (us : List Int) (k : Nat) (x : Int) : spare us (k + 1) x = if x ∈ us then spare us k (x + 1) else x :: spare us k (x + 1) := rfl
theorem spare_add (us : List Int) : ∀ (i j : Nat) (x : Int), spare us (i + j) x = spare us i x ++ spare us j (x + i)
  | 0, j, x => by simp [spare]
  | i + 1, j, x => by
    have e : x + 1 + (i : Int) = x + ((i + 1 : Nat) : Int) := by omega
    rw [show i + 1 + j = (i + j) + 1 by omega, spare_s, spare_s]
    by_cases h : x ∈ us
    · rw [if_pos h, if_pos h, spare_add us i j (x + 1), e]
    · rw [if_neg h, if_neg h, spare_add us i j (x + 1), e, List.cons_append]
theorem spare_succ (us : List Int) (i : Nat) (x : Int) : spare us (i + 1) x = spare us i x ++ (if x + i ∈ us then [] else [x + i]) := by
  rw [spare_add us i 1 x]
  rfl
theorem spare_len (us : List Int) : ∀ (i : Nat) (x : Int), (spare us i x).length ≤ i
  | 0, x => by simp [spare]
  | i + 1, x => by
    unfold spare
    have := spare_len us i (x + 1)
    by_cases h : x ∈ us
    · rw [if_pos h]; omega
    · rw [if_neg h, List.length_cons]; omega
theorem spare_mem (us : List Int) : ∀ (i : Nat) (x y : Int), y ∈ spare us i x → ¬ y ∈ us ∧ x ≤ y ∧ y < x + i
  | 0, x, y, h => by simp [spare] at h
  | i + 1, x, y, h => by
    unfold spare at h
    by_cases c : x ∈ us
    · rw [if_pos c] at h
      have := spare_mem us i (x + 1) y h
      exact ⟨this.1, by omega, by omega⟩
    · rw [if_neg c] at h
      rcases List.mem_cons.mp h with q | q
      · subst q; exact ⟨c, by omega, by omega⟩
      · have := spare_mem us i (x + 1) y q
        exact ⟨this.1, by omega, by omega⟩
/-- how many numbers a range has -/
def wide (lo hi : Int) : Nat := (hi + 1 - lo).toNat
def goodR (lo hi : Int) : Prop := 1 ≤ lo ∧ lo ≤ hi ∧ hi ≤ lo + 63 ∧ hi ≤ 9999
def numF (lo hi : Int) (d : Addr) : List (Str × V) := [("low", .int lo), ("high", .int hi), ("held", .ref d)]
def NumAt (H : Hp) (C x dx d : Addr) (lo hi : Int) (us : List Int) : Prop := H x = some (.ins C dx (numF lo hi d)) ∧ H d = some (.dK (heldK us))
theorem NumAt.same {H H' : Hp} {C x dx d : Addr} {lo hi : Int} {us : List Int} (h : NumAt H C x dx d lo hi us) (s : Same H H') : NumAt H' C x dx d lo hi us := ⟨s _ _ h.1, s _ _ h.2⟩
/-- a bare refusal in the air -/
def BareX (C : Addr) (wd : Str) (H : Hp) (E : XK) : Prop := ∀ (d : Addr) (H' : Hp), H d = none → Same H H' → H' d = some (.xd [("word", .str wd)]) → E (.ref C) (some d) H'
def TakenX (C : Addr) (i : Int) (H : Hp) (E : XK) : Prop := ∀ (d : Addr) (H' : Hp), H d = none → Same H H' → H' d = some (.xd [("number", .int i), ("word", .str "nottaken")]) → E (.ref C) (some d) H'
/-- C(): no field but the word -/
def spIn0 (K : PySem.W.Frag) (wd : Str) : Sp := fun vs H Q _ => ∃ (a C : Addr), vs = [.ref a] ∧ OexC K C ∧ PySem.W.findIn K (.ref C) "word" = some none ∧ H a = some (exo a C none) ∧
  ∀ (dx : Addr) (H' : Hp), H dx = none → dx ≠ a → (∀ b o, H b = some o → b ≠ a → H' b = some o) → H' a = some (exo a C (some dx)) → H' dx = some (exd dx [("word", .str wd)]) → Q .non H'
def spIsRange : Sp := fun vs H Q _ => ∃ lo hi : Int, vs = [.int lo, .int hi] ∧ ∀ b : Bool, (b = true ↔ goodR lo hi) → Q (.bl b) H
def spNumI (C : Addr) : Sp := fun vs H Q _ => ∃ (x dx : Addr) (lo hi : Int), vs = [.ref x, .int lo, .int hi] ∧ H x = some (.ins C dx []) ∧ goodR lo hi ∧
  ∀ (d : Addr) (H' : Hp), H d = none → (∀ b o, H b = some o → b ≠ x → H' b = some o) → NumAt H' C x dx d lo hi [] → Q .non H'
def spNTake (C CN : Addr) : Sp := fun vs H Q E => ∃ (x dx d : Addr) (lo hi : Int) (us : List Int), vs = [.ref x] ∧ NumAt H C x dx d lo hi us ∧ goodR lo hi ∧ us.length ≤ 1000 ∧
  (spare us (wide lo hi) lo = [] → BareX CN "nonumber" H E) ∧ (∀ i r, spare us (wide lo hi) lo = i :: r → Q (.int i) (upd H d (.dK (heldK (us ++ [i])))))
def spNGive (C CT : Addr) : Sp := fun vs H Q E => ∃ (x dx d : Addr) (lo hi i : Int) (us : List Int), vs = [.ref x, .int i] ∧ NumAt H C x dx d lo hi us ∧ us.Nodup ∧ i.natAbs.log2 < 1920 ∧
  (¬ i ∈ us → TakenX CT i H E) ∧ (i ∈ us → Q .non (upd H d (.dK (heldK (us.erase i)))))
def spNTaken (C : Addr) : Sp := fun vs H Q _ => ∃ (x dx d : Addr) (lo hi : Int) (us : List Int), vs = [.ref x] ∧ NumAt H C x dx d lo hi us ∧ us.length ≤ 1000 ∧
  ∀ (ys : List Int) (p : Addr), ys.Perm us → ys.Pairwise (· ≤ ·) → H p = none → Q (.ref p) (upd H p (.lst (ys.map V.int)))
def spNLeft (C : Addr) : Sp := fun vs H Q _ => ∃ (x dx d : Addr) (lo hi : Int) (us : List Int), vs = [.ref x] ∧ NumAt H C x dx d lo hi us ∧ Q (.int (hi - lo + 1 - us.length)) H
def spNHas (C : Addr) : Sp := fun vs H Q _ => ∃ (x dx d : Addr) (lo hi i : Int) (us : List Int), vs = [.ref x, .int i] ∧ NumAt H C x dx d lo hi us ∧ Q (.bl (decide (lo ≤ i ∧ i ≤ hi))) H
/-- what the top has written of the class -/
structure NumT (K : PySem.W.Frag) (mg : Str → Option Value) (C fI : Addr) : Prop where
  g : mg "Numbers" = some (.ref C)
  cl : Cls K C
  made : Mk K C fI
  nl : NoAttr K C "low"
  nh : NoAttr K C "high"
  nd : NoAttr K C "held"
/-- two increasing lists of the same numbers are one -/
theorem sorted_one {xs ys : List Int} (p : xs.Perm ys) (hx : xs.Pairwise (· ≤ ·)) (hy : ys.Pairwise (· ≤ ·)) : xs = ys :=
  p.eq_of_pairwise (fun a b _ _ h1 h2 => Int.le_antisymm h1 h2) hx hy
end K

/-! a statement and the rest, with what holds between them named once -/
namespace L2
open PySem PySem.Spec PyProof.Rows
section
variable {X : Cx} {st : Stmt} {rest : List Stmt} {t u : TS}
def tMid (t u : TS) : TS := fun D σ H => ∃ Pre : St → Hp → Prop, t { D with nx := Pre } σ H ∧ ∀ σ' H', Pre σ' H' → u D σ' H'
theorem pss_mid (h1 : PS X st t) (h2 : PSs X rest u) : PSs X (st :: rest) (tMid t u) := by
  refine ⟨fun pins s σ H D I ⟨Pre, h, hu⟩ => ?_⟩
  refine wpAny_execs_cons (thn (h1.run pins s σ H { D with nx := Pre } I h) fun f s1 q => ?_)
  cases f with
  | next =>
    obtain ⟨σ', H', I', q⟩ := q
    exact h2.run pins s1 σ' H' D I' (hu _ _ q)
  | ret v => exact q
  | brk => exact q
  | cont => exact q
end
end L2
namespace K
open PySem PySem.Spec PyProof.Rows L2
theorem ints_ne_refs {us : List Int} {a : Addr} {r : List V} : HO.lst (us.map V.int) ≠ HO.lst (.ref a :: r) := fun z => by
  cases us with
  | nil => cases z
  | cons n us => injection z with z; injection z with z1 z2; cases z1
theorem new_at {H H' : Hp} {p : Addr} {o : HO} (n : H p = none) (e : upd H p o = H') : Same H H' ∧ H' p = some o := by
  subst e
  exact ⟨same_upd n, upd_same⟩
/-- one of the two ranges of the law -/
structure Side where
  x : Addr
  dx : Addr
  d : Addr
  u : Addr
  t : Addr
  lo : Int
  hi : Int
  us : List Int
structure SideAt (H : Hp) (C : Addr) (S : Side) : Prop where
  num : NumAt H C S.x S.dx S.d S.lo S.hi S.us
  u : H S.u = some (.lst (S.us.map V.int))
  t : H S.t = some (.tup [.int S.lo, .int S.hi])
structure SideOk (S : Side) : Prop where
  good : goodR S.lo S.hi
  nd : S.us.Nodup
  mem : ∀ i ∈ S.us, S.lo ≤ i ∧ i ≤ S.hi
structure Both (H : Hp) (C p q en bo ud : Addr) (S : Nat → Side) (i : Nat) : Prop where
  box : BoxAt H p q
  en : H en = some (.lst [.ref (S 0).t, .ref (S 1).t])
  bo : H bo = some (.lst [.ref (S 0).x, .ref (S 1).x])
  ud : H ud = some (.lst [.ref (S 0).u, .ref (S 1).u])
  side : ∀ k, k < 2 → SideAt H C (S k)
  ok : ∀ k, k < 2 → SideOk (S k)
  len : ∀ k, k < 2 → (S k).us.length ≤ i
  uq : ∀ k, k < 2 → (S k).u ≠ q
  uu : ∀ k j, k < 2 → j < 2 → k ≠ j → (S k).u ≠ (S j).u
  dd : ∀ k j, k < 2 → j < 2 → k ≠ j → (S k).d ≠ (S j).d
theorem SideAt.same {H H' : Hp} {C : Addr} {S : Side} (h : SideAt H C S) (s : Same H H') : SideAt H' C S := ⟨h.num.same s, s _ _ h.u, s _ _ h.t⟩
theorem Both.same {H H' : Hp} {C p q en bo ud : Addr} {S : Nat → Side} {i : Nat} (h : Both H C p q en bo ud S i) (s : Same H H') : Both H' C p q en bo ud S i :=
  ⟨h.box.same s, s _ _ h.en, s _ _ h.bo, s _ _ h.ud, fun k hk => (h.side k hk).same s, h.ok, h.len, h.uq, h.uu, h.dd⟩
/-- the box alone is written -/
theorem Both.but {H H' : Hp} {C p q en bo ud : Addr} {S : Nat → Side} {i : Nat} (h : Both H C p q en bo ud S i) (B : BoxAt H' p q) (b : But p H H') : Both H' C p q en bo ud S i := by
  obtain ⟨ns, i0, t0, s0, hp, hq, _⟩ := h.box
  refine ⟨B, b _ _ h.en (ne_of h.en hp fun z => by cases z), b _ _ h.bo (ne_of h.bo hp fun z => by cases z), b _ _ h.ud (ne_of h.ud hp fun z => by cases z), fun k hk => ?_, h.ok, h.len, h.uq, h.uu, h.dd⟩
  have hs := h.side k hk
  exact ⟨⟨b _ _ hs.num.1 (ne_of hs.num.1 hp fun z => by cases z), b _ _ hs.num.2 (ne_of hs.num.2 hp fun z => by cases z)⟩, b _ _ hs.u (ne_of hs.u hp ints_ne_refs), b _ _ hs.t (ne_of hs.t hp fun z => by cases z)⟩
def putS (S : Nat → Side) (k : Nat) (s : Side) : Nat → Side := fun j => if j = k then s else S j
theorem putS_same {S : Nat → Side} {k : Nat} {s : Side} : putS S k s k = s := if_pos rfl
theorem putS_ne {S : Nat → Side} {k j : Nat} {s : Side} (h : j ≠ k) : putS S k s j = S j := if_neg h
/-- the side k is changed: its list (maybe another one) and its dict -/
theorem Both.put {H H' : Hp} {C p q en bo ud u' : Addr} {S : Nat → Side} {i i' k : Nat} {us' : List Int} (h : Both H C p q en bo ud S i) (hk : k < 2) (hi : i ≤ i')
    (st : ∀ b o, H b = some o → b ≠ ud → b ≠ (S k).u → b ≠ (S k).d → H' b = some o)
    (h1 : H' ud = some (.lst [.ref (putS S k { S k with u := u', us := us' } 0).u, .ref (putS S k { S k with u := u', us := us' } 1).u])) (h2 : H' u' = some (.lst (us'.map V.int))) (h3 : H' (S k).d = some (.dK (heldK us')))
    (ok : SideOk { S k with u := u', us := us' }) (hl : us'.length ≤ i') (n1 : u' ≠ q) (n2 : ∀ j, j < 2 → j ≠ k → u' ≠ (S j).u) : Both H' C p q en bo ud (putS S k { S k with u := u', us := us' }) i' := by
  obtain ⟨ns, i0, t0, s0, hp, hq, _⟩ := id h.box
  have hsk := h.side k hk
  have kt : ∀ j, (putS S k { S k with u := u', us := us' } j).t = (S j).t := fun j => by
    by_cases e : j = k
    · subst e; rw [putS_same]
    · rw [putS_ne e]
  have kx : ∀ j, (putS S k { S k with u := u', us := us' } j).x = (S j).x := fun j => by
    by_cases e : j = k
    · subst e; rw [putS_same]
    · rw [putS_ne e]
  have kd : ∀ j, (putS S k { S k with u := u', us := us' } j).d = (S j).d := fun j => by
    by_cases e : j = k
    · subst e; rw [putS_same]
    · rw [putS_ne e]
  have nud : (S k).u ≠ ud := ne_of hsk.u h.ud ints_ne_refs
  refine ⟨h.box.at (fun o e => st _ o e (ne_of hp h.ud fun z => by cases z) (ne_of hp hsk.u (Ne.symm ints_ne_refs)) (ne_of hp hsk.num.2 fun z => by cases z)) (fun o e => st _ o e (ne_of hq h.ud ints_ne_refs) (Ne.symm (h.uq k hk)) (ne_of hq hsk.num.2 fun z => by cases z)), ?_, ?_, h1, fun j hj => ?_, fun j hj => ?_, fun j hj => ?_, fun j hj => ?_, fun j l hj hl' hjl => ?_, fun j l hj hl' hjl => ?_⟩
  · rw [kt, kt]
    refine st _ _ h.en (fun e => ?_) (ne_of h.en hsk.u (Ne.symm ints_ne_refs)) (ne_of h.en hsk.num.2 fun z => by cases z)
    have h0 := h.en
    rw [e, h.ud] at h0
    injection h0 with h0
    injection h0 with h0
    injection h0 with e1 e2
    injection e1 with e1
    have a1 := (h.side 0 (by omega)).t
    have a2 := (h.side 0 (by omega)).u
    rw [← e1, a2] at a1
    cases a1
  · rw [kx, kx]
    refine st _ _ h.bo (fun e => ?_) (ne_of h.bo hsk.u (Ne.symm ints_ne_refs)) (ne_of h.bo hsk.num.2 fun z => by cases z)
    have h0 := h.bo
    rw [e, h.ud] at h0
    injection h0 with h0
    injection h0 with h0
    injection h0 with e1 e2
    injection e1 with e1
    have a1 := (h.side 0 (by omega)).num.1
    have a2 := (h.side 0 (by omega)).u
    rw [← e1, a2] at a1
    cases a1
  · have hs := h.side j hj
    have f1 : H' (S j).x = some (.ins C (S j).dx (numF (S j).lo (S j).hi (S j).d)) := st _ _ hs.num.1 (ne_of hs.num.1 h.ud fun z => by cases z) (ne_of hs.num.1 hsk.u fun z => by cases z) (ne_of hs.num.1 hsk.num.2 fun z => by cases z)
    have f2 : H' (S j).t = some (.tup [.int (S j).lo, .int (S j).hi]) := st _ _ hs.t (ne_of hs.t h.ud fun z => by cases z) (ne_of hs.t hsk.u fun z => by cases z) (ne_of hs.t hsk.num.2 fun z => by cases z)
    by_cases e : j = k
    · subst e
      rw [putS_same]
      exact ⟨⟨f1, h3⟩, h2, f2⟩
    · rw [putS_ne e]
      exact ⟨⟨f1, st _ _ hs.num.2 (ne_of hs.num.2 h.ud fun z => by cases z) (ne_of hs.num.2 hsk.u fun z => by cases z) (h.dd j k hj hk e)⟩, st _ _ hs.u (ne_of hs.u h.ud ints_ne_refs) (h.uu j k hj hk e) (ne_of hs.u hsk.num.2 fun z => by cases z), f2⟩
  · by_cases e : j = k
    · subst e; rw [putS_same]; exact ok
    · rw [putS_ne e]; exact h.ok j hj
  · by_cases e : j = k
    · subst e; rw [putS_same]; exact hl
    · rw [putS_ne e]; exact Nat.le_trans (h.len j hj) hi
  · by_cases e : j = k
    · subst e; rw [putS_same]; exact n1
    · rw [putS_ne e]; exact h.uq j hj
  · by_cases e : j = k
    · subst e
      rw [putS_same, putS_ne (Ne.symm hjl)]
      exact n2 l hl' (Ne.symm hjl)
    · rw [putS_ne e]
      by_cases e2 : l = k
      · subst e2
        rw [putS_same]
        exact Ne.symm (n2 j hj hjl)
      · rw [putS_ne e2]
        exact h.uu j l hj hl' hjl
  · rw [kd, kd]
    exact h.dd j l hj hl' hjl
theorem two_at {f : Nat → Addr} {k : Nat} (hk : k < 2) : atI [V.ref (f 0), V.ref (f 1)] (k : Int) = some (.ref (f k)) := by
  match k, hk with
  | 0, _ => rfl
  | 1, _ => rfl
theorem putS_set {S : Nat → Side} {k : Nat} {s : Side} (hk : k < 2) : [V.ref (S 0).u, V.ref (S 1).u].set k (.ref s.u) = [.ref (putS S k s 0).u, .ref (putS S k s 1).u] := by
  match k, hk with
  | 0, _ => rfl
  | 1, _ => rfl
theorem inV_ints (x : Int) : ∀ us : List Int, inV (.int x) (us.map V.int) = decide (x ∈ us)
  | [] => rfl
  | y :: us => by
    have ih := inV_ints x us
    unfold inV at ih ⊢
    rw [List.map_cons, List.any_cons, ih]
    by_cases e : y = x
    · subst e
      have : eqV (.int y) (.int y) = true := by simp [eqV]
      rw [this, Bool.true_or, decide_eq_true List.mem_cons_self]
    · have : eqV (.int y) (.int x) = false := by simp [eqV, e]
      rw [this, Bool.false_or]
      by_cases h : x ∈ us
      · rw [decide_eq_true h, decide_eq_true (List.mem_cons_of_mem _ h)]
      · rw [decide_eq_false h, decide_eq_false (fun z => by rcases List.mem_cons.mp z with q | q; exact e q.symm; exact h q)]
theorem flat_intsV (us : List Int) : (us.map V.int).all flatV = true := by
  rw [List.all_eq_true]
  intro x m
  obtain ⟨n, _, e⟩ := List.mem_map.mp m
  subst e
  rfl
theorem erase_at {x : Int} : ∀ {us : List Int}, x ∈ us → ∃ j : Nat, us[j]? = some x ∧ (∀ m : Nat, m < j → us[m]? ≠ some x) ∧ us.eraseIdx j = us.erase x
  | y :: us, h => by
    by_cases e : y = x
    · subst e
      exact ⟨0, rfl, fun m z => absurd z (Nat.not_lt_zero _), by rw [List.erase_cons_head]; rfl⟩
    · have h2 : x ∈ us := by rcases List.mem_cons.mp h with q | q; exact absurd q.symm e; exact q
      obtain ⟨j, j1, j2, j3⟩ := erase_at h2
      refine ⟨j + 1, j1, fun m hm => ?_, ?_⟩
      · cases m with
        | zero => intro z; exact e (Option.some.inj z)
        | succ m => exact j2 m (by omega)
      · have e3 : (y == x) = false := by simpa using e
        rw [List.erase_cons_tail (by rw [e3]; exact Bool.false_ne_true), ← j3]
        rfl
end K

/-! a web as it begins: how it lies in the heap -/
namespace K
open PySem PySem.Spec PyProof.Rows L2
theorem ifT0 {c : Bool} {A B : Prop} (hc : c = true) (h : A) : if c = true then A else B := by rw [if_pos hc]; exact h
theorem ifF0 {c : Bool} {A B : Prop} (hc : c = false) (h : B) : if c = true then A else B := by rw [hc, if_neg Bool.false_ne_true]; exact h
/-- what the top has written of an own class -/
structure ClsT (K : PySem.W.Frag) (mg : Str → Option Value) (x : Str) (C fI : Addr) (fs : List Str) : Prop where
  g : mg x = some (.ref C)
  cl : Cls K C
  made : Mk K C fI
  na : ∀ f ∈ fs, NoAttr K C f
def slipFs : List Str := ["number", "what", "out", "path", "age", "mood", "told"]
def homeFs : List Str := ["name", "numbers", "sight", "wants", "stands", "news", "queue", "freed"]
def webFs : List Str := ["homes", "bonds", "mail", "bores", "ever"]
def slipF (n : Int) (wh out pa : V) (age : Int) (mood : Str) (td : Addr) : List (Str × V) := [("number", .int n), ("what", wh), ("out", out), ("path", pa), ("age", .int age), ("mood", .str mood), ("told", .ref td)]
def homeF (nm : Int) (nu sg wt st nw qu : Addr) : List (Str × V) := [("name", .int nm), ("numbers", .ref nu), ("sight", .ref sg), ("wants", .ref wt), ("stands", .ref st), ("news", .ref nw), ("queue", .ref qu), ("freed", .bl false)]
def webF (hl b ml bo : Addr) (e : Int) : List (Str × V) := [("homes", .ref hl), ("bonds", .ref b), ("mail", .ref ml), ("bores", .ref bo), ("ever", .int e)]
/-- kept but at some places -/
def Off (as : List Addr) (H H' : Hp) : Prop := ∀ b o, H b = some o → b ∉ as → H' b = some o
theorem Off.trans {as bs : List Addr} {H H1 H2 : Hp} (h : Off as H H1) (k : Off bs H1 H2) : Off (as ++ bs) H H2 := fun b o e nb => k b o (h b o e fun m => nb (List.mem_append_left _ m)) fun m => nb (List.mem_append_right _ m)
theorem Off.of_same {H H' : Hp} (s : Same H H') : Off [] H H' := fun b o e _ => s b o e
theorem Off.sub {as bs : List Addr} {H H' : Hp} (h : Off as H H') (s : ∀ a ∈ as, a ∈ bs) : Off bs H H' := fun b o e nb => h b o e fun m => nb (s b m)
/-- a def that may raise, where it doesn't -/
theorem calm_fn {P : Program} {w : World} {K : PySem.W.Frag} {mg : Str → Option Value} {base : Heap} {k : Nat} {f : Addr} {fd : FuncData} {ps : List Str} {sp : Sp} (F : FnOk P w K mg base (L2.CX P w) k f fd ps sp) : FnOk P w K mg base CX0 k f fd ps (fun vs H Q _ => sp vs H Q (fun _ _ _ => False)) := by
  refine ⟨fun vs H Q E h => F.len vs H Q _ h, fun A outer s H args us vs Q E hr e0 hb r hs => ?_⟩
  refine codeAny_mono (F.run A outer s H args us vs Q _ hr e0 hb r hs) fun r s' h => ?_
  match r, h with
  | .ok (.ret u), h => exact h
  | .error e, h =>
    obtain ⟨a, B, H', cls, d, _, _, _, _, _, _, _, z⟩ := h
    exact z
/-- len(list or tuple) within a comprehension -/
def rLenK (K : PySem.W.Frag) : List V → Hp → VK → Prop := fun xs H Q => ∃ (p : Addr) (ys : List V), xs = [V.ref p] ∧ (SqL K H p ys ∨ SqT K H p ys) ∧ Q (V.int (ys.length : Nat)) H
/-- where a house's things lie -/
structure HomeA where
  x : Addr
  dx : Addr
  nu : Addr
  dn : Addr
  dhd : Addr
  sg : Addr
  wt : Addr
  st : Addr
  nw : Addr
  qu : Addr
/-- its dicts -/
def HomeA.ds (a : HomeA) : List Addr := [a.dhd, a.st, a.nw]
/-- its lists -/
def HomeA.ls (a : HomeA) : List Addr := [a.sg, a.wt, a.qu]
structure HomeAt (H : Hp) (CH CN : Addr) (a : HomeA) (nm lo hi : Int) (n : Nat) (us : List Int) (kvs : List (Key × V)) : Prop where
  me : H a.x = some (.ins CH a.dx (homeF nm a.nu a.sg a.wt a.st a.nw a.qu))
  num : NumAt H CN a.nu a.dn a.dhd lo hi us
  sg : H a.sg = some (.lst [])
  wt : H a.wt = some (.lst (List.replicate n .non))
  st : H a.st = some (.dK kvs)
  nw : H a.nw = some (.dK [])
  qu : H a.qu = some (.lst [])
theorem HomeAt.off {H H' : Hp} {CH CN : Addr} {a : HomeA} {nm lo hi : Int} {n : Nat} {us : List Int} {kvs : List (Key × V)} {as : List Addr} (h : HomeAt H CH CN a nm lo hi n us kvs) (o : Off as H H') (hd : ∀ y ∈ a.ds, y ∉ as) (hn : ∀ y ∈ as, (∃ kv, H y = some (.dK kv)) ∨ ∃ C dx e f, C ≠ CH ∧ C ≠ CN ∧ H y = some (.ins C dx (e :: f))) : HomeAt H' CH CN a nm lo hi n us kvs := by
  have lst : ∀ {y xs}, H y = some (.lst xs) → y ∉ as := fun e m => by
    rcases hn _ m with ⟨kv, z⟩ | ⟨C, dx, a, f, _, _, z⟩ <;> (rw [e] at z; cases z)
  have ins1 : ∀ {y dx f}, H y = some (.ins CH dx f) → y ∉ as := fun e m => by
    rcases hn _ m with ⟨kv, z⟩ | ⟨C, dx, a, f, h1, _, z⟩
    · rw [e] at z; cases z
    · rw [e] at z; injection z with z; injection z with z; exact h1 z.symm
  have ins2 : ∀ {y dx f}, H y = some (.ins CN dx f) → y ∉ as := fun e m => by
    rcases hn _ m with ⟨kv, z⟩ | ⟨C, dx, a, f, _, h1, z⟩
    · rw [e] at z; cases z
    · rw [e] at z; injection z with z; injection z with z; exact h1 z.symm
  exact ⟨o _ _ h.me (ins1 h.me), ⟨o _ _ h.num.1 (ins2 h.num.1), o _ _ h.num.2 (hd _ (by simp [HomeA.ds]))⟩, o _ _ h.sg (lst h.sg), o _ _ h.wt (lst h.wt), o _ _ h.st (hd _ (by simp [HomeA.ds])), o _ _ h.nw (hd _ (by simp [HomeA.ds])), o _ _ h.qu (lst h.qu)⟩
theorem HomeAt.putL {H : Hp} {CH CN D : Addr} {a : HomeA} {nm lo hi : Int} {n : Nat} {us : List Int} {kvs : List (Key × V)} {xs ys : List V} (h : HomeAt H CH CN a nm lo hi n us kvs) (hD : H D = some (.lst xs)) (nd : D ∉ a.ls) : HomeAt (upd H D (.lst ys)) CH CN a nm lo hi n us kvs := by
  have k : ∀ {y o}, H y = some o → o ≠ .lst xs → upd H D (.lst ys) y = some o := fun e ne => by rw [upd_ne (fun q => ne (by rw [q, hD] at e; exact (Option.some.inj e).symm))]; exact e
  have l : ∀ {y o}, H y = some o → y ∈ a.ls → upd H D (.lst ys) y = some o := fun e m => by rw [upd_ne (fun q => nd (by rw [← q]; exact m))]; exact e
  exact ⟨k h.me (fun z => by cases z), ⟨k h.num.1 (fun z => by cases z), k h.num.2 (fun z => by cases z)⟩, l h.sg (by simp [HomeA.ls]), l h.wt (by simp [HomeA.ls]), k h.st (fun z => by cases z), k h.nw (fun z => by cases z), l h.qu (by simp [HomeA.ls])⟩
theorem spare_first {lo hi : Int} (h : goodR lo hi) : ∃ r, spare [] (wide lo hi) lo = lo :: r := by
  obtain ⟨_, h2, _⟩ := h
  have e : wide lo hi = (wide lo hi - 1) + 1 := by unfold wide; omega
  rw [e, spare_s, if_neg (by simp)]
  exact ⟨_, rfl⟩
theorem HomeAt.same {H H' : Hp} {CH CN : Addr} {a : HomeA} {nm lo hi : Int} {n : Nat} {us : List Int} {kvs : List (Key × V)} (h : HomeAt H CH CN a nm lo hi n us kvs) (s : Same H H') : HomeAt H' CH CN a nm lo hi n us kvs :=
  h.off (Off.of_same s) (fun _ _ => by simp) (fun _ m => by simp at m)
/-- an object under work at x: what was there ahead stands but at x -/
theorem Off.fresh {x p : Addr} {H H' : Hp} {o : HO} (h : Off [x] H H') (hx : H' x = some o) (hp : H' p = none) : H p = none ∧ p ≠ x := by
  have ne : p ≠ x := fun q => by rw [q, hx] at hp; cases hp
  refine ⟨?_, ne⟩
  cases e : H p with
  | none => rfl
  | some u => rw [h p u e (by simp [ne])] at hp; cases hp
theorem Off.put {x : Addr} {H H' : Hp} {o : HO} (h : Off [x] H H') : Off [x] H (upd H' x o) := fun b u e nb => by rw [upd_ne (fun q => nb (by simp [q]))]; exact h b u e nb
theorem Off.new {x p : Addr} {H H' : Hp} {o : HO} (h : Off [x] H H') (hp : H' p = none) : Off [x] H (upd H' p o) := fun b u e nb => by rw [upd_ne (ne_of_none (h b u e nb) hp)]; exact h b u e nb
structure SlipA where
  sl : Addr
  dsl : Addr
  wh : Addr
  pa : Addr
  td : Addr
structure SlipAt (H : Hp) (CS : Addr) (s : SlipA) (nm lo age : Int) : Prop where
  me : H s.sl = some (.ins CS s.dsl (slipF lo (.ref s.wh) .non (.ref s.pa) age "live" s.td))
  wh : H s.wh = some (.tup [.str "goal", .int nm])
  pa : H s.pa = some (.tup [.int nm])
  td : H s.td = some (.dK [])
theorem SlipAt.same {H H' : Hp} {CS : Addr} {a : SlipA} {nm lo age : Int} (h : SlipAt H CS a nm lo age) (s : Same H H') : SlipAt H' CS a nm lo age := ⟨s _ _ h.me, s _ _ h.wh, s _ _ h.pa, s _ _ h.td⟩
structure WebC where
  W : Addr
  H : Addr
  N : Addr
  S : Addr
structure WebA where
  x : Addr
  dx : Addr
  hl : Addr
  b : Addr
  ml : Addr
  bo : Addr
  hs : List HomeA
  ss : List SlipA
/-- a web as it begins, in ranges rs -/
structure Fresh (H : Hp) (c : WebC) (a : WebA) (rs : List (Int × Int)) : Prop where
  me : H a.x = some (.ins c.W a.dx (webF a.hl a.b a.ml a.bo (rs.length : Nat)))
  hl : H a.hl = some (.lst (a.hs.map fun h => V.ref h.x))
  b : H a.b = some (.dK [])
  ml : H a.ml = some (.dK [])
  bo : H a.bo = some (.dK [])
  lh : a.hs.length = rs.length
  ls : a.ss.length = rs.length
  n1 : 1 ≤ rs.length
  n8 : rs.length ≤ 8
  home : ∀ (i : Nat) (h : HomeA) (r : Int × Int) (s : SlipA), a.hs[i]? = some h → rs[i]? = some r → a.ss[i]? = some s → goodR r.1 r.2 ∧ HomeAt H c.H c.N h (i : Nat) r.1 r.2 rs.length [r.1] [(Sum.inl r.1, V.ref s.sl)] ∧ SlipAt H c.S s (i : Nat) r.1 ((i : Nat) + 1)
theorem Fresh.same {H H' : Hp} {c : WebC} {a : WebA} {rs : List (Int × Int)} (h : Fresh H c a rs) (s : Same H H') : Fresh H' c a rs :=
  ⟨s _ _ h.me, s _ _ h.hl, s _ _ h.b, s _ _ h.ml, s _ _ h.bo, h.lh, h.ls, h.n1, h.n8, fun i x r z h1 h2 h3 => let ⟨g, q1, q2⟩ := h.home i x r z h1 h2 h3; ⟨g, q1.same s, q2.same s⟩⟩
/-- the ranges as they are handed in -/
def RangesAt (H : Hp) (l : Addr) (rs : List (Int × Int)) : Prop := ∃ ts : List Addr, H l = some (.lst (ts.map V.ref)) ∧ Paired (fun t (r : Int × Int) => H t = some (.tup [.int r.1, .int r.2])) ts rs
def TooMX (C : Addr) (n : Int) (H : Hp) (E : XK) : Prop := ∀ (d : Addr) (H' : Hp), H d = none → Same H H' → H' d = some (.xd [("bound", .int n), ("word", .str "toomany")]) → E (.ref C) (some d) H'
/-- [.. for i, x in enumerate(list)] -/
theorem lc_enum {K : PySem.W.Frag} {a : Addr} {xs : List V} {g : TG} {tt : TT} {te : TE} {own : List Nat} {σ : L2.St} {Ha : Hp} {D : Addr} {Z : Hp → Prop} (B : Nat → Hp → Prop) (hb : B 0 (upd Ha D (.lst []))) (hq : ∀ j Hj, B j Hj → SqL K Hj a xs)
    (step : ∀ j x N Hj, xs[j]? = some x → B j Hj → Hj N = none → g (.ref N) (wipe σ own) (upd Hj N (.tup [.int (j : Nat), x])) fun σ' Hk => wipe σ' own = wipe σ own ∧ tt σ' Hk fun ok Hl =>
      if ok = true then te σ' Hl fun y Hm => ∃ got, Hm D = some (.lst got) ∧ got.length < sizeLine ∧ B (j + 1) (upd Hm D (.lst (got ++ [y]))) else B (j + 1) Hl)
    (out : ∀ Hj, B xs.length Hj → Z Hj) :
    ∃ V : Nat → Nat → Hp → Prop, (∃ m, V 0 m (upd Ha D (.lst []))) ∧ ∀ j m Hj, V j m Hj → ((Ite K a).stop j Hj ∧ Z Hj) ∨ ((Ite K a).go j Hj ∧ ∃ F : Hp → Prop, (∀ Hk, F Hk → ∃ m', m' < m ∧ V (j + 1) m' Hk) ∧
      ∀ y Hk, (Ite K a).yld j Hj y Hk → g y (wipe σ own) Hk fun σ' Hl => wipe σ' own = wipe σ own ∧ tt σ' Hl fun ok Hm =>
        if ok = true then te σ' Hm fun u Hn => ∃ got, Hn D = some (.lst got) ∧ got.length < sizeLine ∧ F (upd Hn D (.lst (got ++ [u]))) else F Hm) := by
  refine ⟨fun j m Hj => m + j = xs.length ∧ B j Hj, ⟨xs.length, rfl, hb⟩, ?_⟩
  rintro j m Hj ⟨em, bj⟩
  have q := hq j Hj bj
  rcases Nat.lt_or_ge j xs.length with c | c
  · have hx : xs[j]? = some xs[j] := List.getElem?_eq_getElem c
    refine .inr ⟨⟨xs, _, q, hx⟩, B (j + 1), fun Hk bk => ⟨m - 1, by omega, by omega, bk⟩, ?_⟩
    rintro y Hk ⟨N, x, rfl, hN, rfl, h1⟩
    exact step j x N Hj (h1 xs q) bj hN
  · have ej : j = xs.length := by omega
    subst ej
    exact .inl ⟨⟨xs, q, Nat.le_refl _⟩, out Hj bj⟩
theorem HomeAt.putW {H : Hp} {CH CN CW x dx : Addr} {a : HomeA} {nm lo hi : Int} {n : Nat} {us : List Int} {kvs : List (Key × V)} {f f' : List (Str × V)} (h : HomeAt H CH CN a nm lo hi n us kvs) (h1 : CW ≠ CH) (h2 : CW ≠ CN) (hx : H x = some (.ins CW dx f)) : HomeAt (upd H x (.ins CW dx f')) CH CN a nm lo hi n us kvs := by
  have k : ∀ {y o}, H y = some o → o ≠ .ins CW dx f → upd H x (.ins CW dx f') y = some o := fun e ne => by rw [upd_ne (fun q => ne (by rw [q, hx] at e; exact (Option.some.inj e).symm))]; exact e
  exact ⟨k h.me (fun z => by injection z with z; exact h1 z.symm), ⟨k h.num.1 (fun z => by injection z with z; exact h2 z.symm), k h.num.2 (fun z => by cases z)⟩, k h.sg (fun z => by cases z), k h.wt (fun z => by cases z), k h.st (fun z => by cases z), k h.nw (fun z => by cases z), k h.qu (fun z => by cases z)⟩
theorem HomeAt.ds_some {H : Hp} {CH CN y : Addr} {a : HomeA} {nm lo hi : Int} {n : Nat} {us : List Int} {kvs : List (Key × V)} (h : HomeAt H CH CN a nm lo hi n us kvs) (hy : H y = none) (m : y ∈ a.ds) : False := by
  simp only [HomeA.ds, List.mem_cons, List.not_mem_nil, or_false] at m
  rcases m with rfl | rfl | rfl
  · rw [h.num.2] at hy; cases hy
  · rw [h.st] at hy; cases hy
  · rw [h.nw] at hy; cases hy
theorem web_step {H H1 : Hp} {C x dx p D : Addr} {f F : List (Str × V)} {xs : List V} (o1 : Off [x] H H1) (x1 : H1 x = some (.ins C dx f)) (np : H1 p = none) (hD : H1 D = some (.lst xs)) (nxD : D ≠ x) :
    Off [x] H (upd (upd H1 p (.dK [])) x (.ins C dx F)) ∧ upd (upd H1 p (.dK [])) x (.ins C dx F) x = some (.ins C dx F) ∧ upd (upd H1 p (.dK [])) x (.ins C dx F) p = some (.dK []) ∧ upd (upd H1 p (.dK [])) x (.ins C dx F) D = some (.lst xs) ∧ upd H1 p (.dK []) x = some (.ins C dx f) := by
  have npx : p ≠ x := fun q => by rw [q, x1] at np; cases np
  refine ⟨(o1.new np).put, upd_same, ?_, ?_, ?_⟩
  · rw [upd_ne npx]; exact upd_same
  · rw [upd_ne nxD, upd_ne (ne_of_none hD np)]; exact hD
  · rw [upd_ne (Ne.symm npx)]; exact x1
theorem web_keep {H1 : Hp} {C x dx p y : Addr} {f F : List (Str × V)} {kv : List (Key × V)} (x1 : H1 x = some (.ins C dx f)) (np : H1 p = none) (hy : H1 y = some (.dK kv)) : upd (upd H1 p (.dK [])) x (.ins C dx F) y = some (.dK kv) := by
  rw [upd_ne (ne_of hy x1 (fun z => by cases z)), upd_ne (ne_of_none hy np)]
  exact hy
theorem HomeAt.ds_dict {H : Hp} {CH CN C y dx : Addr} {a : HomeA} {nm lo hi : Int} {n : Nat} {us : List Int} {kvs : List (Key × V)} {f : List (Str × V)} (h : HomeAt H CH CN a nm lo hi n us kvs) (hy : H y = some (.ins C dx f)) (m : y ∈ a.ds) : False := by
  simp only [HomeA.ds, List.mem_cons, List.not_mem_nil, or_false] at m
  rcases m with rfl | rfl | rfl
  · rw [h.num.2] at hy; cases hy
  · rw [h.st] at hy; cases hy
  · rw [h.nw] at hy; cases hy
theorem flat_one : ∀ {hs : List HomeA} {h : HomeA}, (hs.flatMap HomeA.ds).Nodup → h ∈ hs → h.ds.Nodup
  | [], _, _, m => by cases m
  | g :: r, h, nd, m => by
    rw [List.flatMap_cons, List.nodup_append] at nd
    rcases List.mem_cons.mp m with rfl | m
    · exact nd.1
    · exact flat_one nd.2.1 m
theorem flat_ne : ∀ {hs : List HomeA} {i j : Nat} {g h : HomeA} {y : Addr}, (hs.flatMap HomeA.ds).Nodup → hs[j]? = some g → hs[i]? = some h → j ≠ i → y ∈ g.ds → y ∈ h.ds → False
  | [], i, j, g, h, y, _, ej, _, _, _, _ => by simp at ej
  | q :: r, i, j, g, h, y, nd, ej, ei, ne, m1, m2 => by
    rw [List.flatMap_cons, List.nodup_append] at nd
    cases j with
    | zero =>
      cases i with
      | zero => exact ne rfl
      | succ i =>
        cases ej
        exact nd.2.2 y m1 y (List.mem_flatMap.mpr ⟨h, List.mem_of_getElem? ei, m2⟩) rfl
    | succ j =>
      cases i with
      | zero =>
        cases ei
        exact nd.2.2 y m2 y (List.mem_flatMap.mpr ⟨g, List.mem_of_getElem? ej, m1⟩) rfl
      | succ i => exact flat_ne nd.2.1 ej ei (fun z => ne (by rw [z])) m1 m2
/-- what is never come to -/
def tNo : TE := fun _ _ _ => False
def tNoT : TT := fun _ _ _ => False
theorem pe_never {X : Cx} {e : Expr} : PE X e tNo := ⟨fun _ _ _ _ _ _ h => h.elim⟩
theorem pts_never {X : Cx} {es : List Expr} : PTs X es tNoT := ⟨fun _ _ _ _ _ _ h => h.elim⟩
/-- a field within a comprehension -/
theorem pe_fldK {X : Cx} {K : PySem.W.Frag} (hK : X.K = K) {o : Expr} {f : Str} {pos : Pos} {ta : TE} (h : PE X (.Attribute o f pos) (tFld X.K ta f)) : PE X (.Attribute o f pos) (tFld K ta f) := by subst hK; exact h
/-- an empty walk -/
theorem lc_nil {K : PySem.W.Frag} {a : Addr} {g : TG} {tt : TT} {te : TE} {vs : List Nat} {σ : L2.St} {Ha : Hp} {D : Addr} {Z : Hp → Prop} (hq : SqL K (upd Ha D (.lst [])) a []) (out : Z (upd Ha D (.lst []))) :
    ∃ W : Nat → Nat → Hp → Prop, (∃ m, W 0 m (upd Ha D (.lst []))) ∧ ∀ i m H, W i m H →
      ((Itl K a).stop i H ∧ Z H) ∨ ((Itl K a).go i H ∧ ∃ Nx : Hp → Prop, (∀ H', Nx H' → ∃ m', m' < m ∧ W (i + 1) m' H') ∧ ∀ x H', (Itl K a).yld i H x H' → g x (wipe σ vs) H' fun σ2 H2 => wipe σ2 vs = wipe σ vs ∧ tt σ2 H2 fun b H3 =>
        if b = true then te σ2 H3 fun y H4 => ∃ acc, H4 D = some (.lst acc) ∧ acc.length < sizeLine ∧ Nx (upd H4 D (.lst (acc ++ [y]))) else Nx H3) :=
  lc_list (K := K) (a := a) (xs := []) (fun i H' => H' = upd Ha D (.lst [])) rfl (fun i H' _ e => by rw [e]; exact hq) (fun i x H' hx => by simp at hx) (fun H' e => by rw [e]; exact out)
theorem paired_monoM {α β : Type} {R R' : α → β → Prop} : ∀ {xs : List α} {ys : List β}, (∀ a b, a ∈ xs → R a b → R' a b) → Paired R xs ys → Paired R' xs ys
  | _, _, _, .nil => .nil
  | _, _, h, .cons r t => .cons (h _ _ (List.mem_cons_self ..) r) (paired_monoM (fun a b m q => h a b (List.mem_cons_of_mem _ m) q) t)
theorem Fresh.putL {H : Hp} {c : WebC} {a : WebA} {rs : List (Int × Int)} {y : Addr} {xs ys : List V} (F : Fresh H c a rs) (hy : H y = some (.lst xs)) (n1 : y ≠ a.hl) (n2 : ∀ h ∈ a.hs, y ∉ h.ls) : Fresh (upd H y (.lst ys)) c a rs := by
  have k : ∀ {z o}, H z = some o → o ≠ .lst xs → upd H y (.lst ys) z = some o := fun e ne => by rw [upd_ne (fun q => ne (by rw [q, hy] at e; exact (Option.some.inj e).symm))]; exact e
  refine ⟨k F.me (fun z => by cases z), by rw [upd_ne (Ne.symm n1)]; exact F.hl, k F.b (fun z => by cases z), k F.ml (fun z => by cases z), k F.bo (fun z => by cases z), F.lh, F.ls, F.n1, F.n8, fun i h r s h1 h2 h3 => ?_⟩
  obtain ⟨g, q1, q2⟩ := F.home i h r s h1 h2 h3
  exact ⟨g, q1.putL hy (n2 h (List.mem_of_getElem? h1)), k q2.me (fun z => by cases z), k q2.wh (fun z => by cases z), k q2.pa (fun z => by cases z), k q2.td (fun z => by cases z)⟩
end K

namespace K
open PySem PySem.Spec PyProof.Rows L2
def top (i : Nat) : Stmt := PySem.Challenge.pw_swapslip_k09_ranges_refused.main.body.getD i (.Pass ⟨0, 0, 0, 0⟩)
abbrev sBox : Stmt := top 37
abbrev sTake : Stmt := top 38
section
variable {P : Program} {w : World} {K : PySem.W.Frag} {mg : Str → Option Value} {base : Heap}
theorem scBox : FnScope ["_law_script"] ["_law_script"] (defScope sBox) := ⟨rfl, rfl, rfl, by decide +kernel, rfl, by decide +kernel, by decide +kernel⟩
theorem ok_box {f : Addr} {fd : FuncData} {k : Nat} (F : Fun K "_law_box" "_law_box" sBox f fd) (ml : mg "list" = none) : FnOk P w K mg base CX0 (k + 1) f fd ["_law_script"] (spBox K) := by
  refine F.ok scBox (fun vs H Q E h => ?_) (fun cdv A outer s H vs Q E hr h => ?_)
  · obtain ⟨a, ns, rfl, _⟩ := h
    rfl
  · obtain ⟨a, ns, rfl, hS, hlen, q⟩ := h
    refine ⟨_, pss_one (ps_ret (pe_lst (pa_cons (pe_callTy call_list_of (by rfl) ml (by decide +kernel) (pa_cons (pe_slice sl_list (pv 0) po_none (po_some pe_int)) pa_nil)) (pa_cons pe_int (pa_cons pe_int (pa_cons pe_int pa_nil)))))), ?_⟩
    refine ⟨.ref a, rfl, 63, rfl, a, _, rfl, hS, fun c nc => ?_⟩
    refine ⟨c, _, rfl, .inl (.inl (.inl upd_same)), fun l nl => ?_⟩
    refine ⟨(by show 4 ≤ sizeLine; decide), fun p np => ?_⟩
    have e : ∃ ms : List Int, cutV (ns.map V.int) none (some 63) = ms.map V.int ∧ ms.length ≤ 63 := by
      refine ⟨(ns.drop (HT.sIx ns.length 0 none)).take (HT.sIx ns.length ns.length (some 63) - HT.sIx ns.length 0 none), ?_, ?_⟩
      · unfold cutV
        rw [List.length_map, ← List.map_drop, ← List.map_take]
      · rw [List.length_take, List.length_drop]; omega
    obtain ⟨ms, em, hm⟩ := e
    rw [em] at nl np ⊢
    have s1 := same_upd (o := .lst (ms.map V.int)) nc
    have s2 := same_upd (o := .lst (ms.map V.int)) nl
    have s3 := same_upd (o := .lst [.ref l, .int 0, .int 0, .int 29]) np
    have nlp : l ≠ p := ne_of_none upd_same np
    refine q p l _ (s1.free (s2.free np)) (s1.free nl) ⟨ms, 0, 0, 29, upd_same, ?_, by omega, by omega, by omega, by omega, hm⟩ (s1.trans (s2.trans s3))
    rw [upd_ne nlp, upd_same]
theorem scTake : FnScope ["_law_box_here", "_law_sides", "_law_tail", "_law_cell", "_law_seed"] ["_law_box_here", "_law_sides"] (defScope sTake) := ⟨rfl, rfl, rfl, by decide +kernel, rfl, by decide +kernel, by decide +kernel⟩
theorem ok_take {f : Addr} {fd : FuncData} {k : Nat} (F : Fun K "_law_take" "_law_take" sTake f fd) (mlen : mg "len" = none) : FnOk P w K mg base CX0 (k + 1) f fd ["_law_box_here", "_law_sides"] spTake := by
  refine F.ok scTake (fun vs H Q E h => ?_) (fun cdv A outer s H vs Q E hr h => ?_)
  · obtain ⟨p, q, n, rfl, _⟩ := h
    rfl
  · obtain ⟨p, q, n, rfl, hB, hn, hn2, kk⟩ := h
    refine ⟨_, pss_cons (ps_if (pt_cmpR op_gt (pe_ix ix_list (pv 0) pe_int (fun _ _ => rfl)) pe_int (nomark _))
        (pss_cons (ps_set (i := 2) scTake.nd rfl (.inl rfl) (pe_ix ix_list (pv 0) pe_int (fun _ _ => rfl)))
        (pss_cons (ps_asg (pe_op op_fdivN (pv 2) (pv 1)) (pg_sub (pv 0) pe_int set_list))
        (pss_one (ps_ret (pe_op op_modN (pv 2) (pv 1)))))) pss_nil)
      (pss_cons (ps_set (i := 3) scTake.nd rfl (.inl rfl) pe_int)
      (pss_cons (ps_if (pt_cmpR op_lt (pe_ix ix_list (pv 0) pe_int (fun _ _ => rfl)) (pe_callB call_len_seq (by rfl) mlen PySem.boot_len (pa_cons (pe_ix ix_list (pv 0) pe_int (fun _ _ => rfl)) pa_nil)) (nomark _))
        (pss_cons (ps_set (i := 3) scTake.nd rfl (.inl rfl) (pe_ix ix_list (pe_ix ix_list (pv 0) pe_int (fun _ _ => rfl)) (pe_ix ix_list (pv 0) pe_int (fun _ _ => rfl)) (fun _ _ => rfl)))
        (pss_one (ps_augS (pv 0) pe_int get_listA pe_int ip_add set_list))) pss_nil)
      (pss_cons (ps_if (pt_cmpR op_ge (pv 3) (pe_op op_pow pe_int pe_int) (nomark _))
        (pss_cons (ps_asg (pe_op op_fdivN (pv 3) (pv 1)) (pg_sub (pv 0) pe_int set_list))
        (pss_one (ps_ret (pe_op op_modN (pv 3) (pv 1))))) pss_nil)
      (pss_cons (ps_set (i := 4) scTake.nd rfl (.inl rfl) (pe_ix ix_list (pv 0) pe_int (fun _ _ => rfl)))
      (pss_cons (ps_asg (pe_op op_modN (pe_op op_add (pe_op op_add (pe_op op_add (pe_op op_pow (pv 4) pe_int) (pe_op op_mul pe_int (pv 4))) (pe_op op_mul pe_int (pe_op op_modN (pv 3) pe_int))) pe_int) pe_int) (pg_sub (pv 0) pe_int set_list))
      (pss_one (ps_ret (pe_op op_modN (pe_op op_fdivN (pe_ix ix_list (pv 0) pe_int (fun _ _ => rfl)) pe_int) (pv 1))))))))), ?_⟩
    obtain ⟨ns, i, t, sd, h1, h2, hi0, hi1, hs0, hs1, hl⟩ := id hB
    have npq := hB.ne
    refine ⟨_, rfl, p, _, 2, _, rfl, rfl, SqL.of h1, rfl, _, _, rfl, rfl, _, rfl, ?_⟩
    refine ite2 (fun c => ?_) (fun c => ?_)
    · refine ⟨_, rfl, p, _, 2, _, rfl, rfl, SqL.of h1, rfl, ?_⟩
      refine ⟨_, rfl, _, rfl, t, n, rfl, rfl, ⟨by omega, by omega⟩, _, rfl, p, _, 2, 2, rfl, rfl, h1, rfl, ?_⟩
      refine ⟨_, rfl, _, rfl, t, n, rfl, rfl, (by show n ≠ 0; omega), ?_⟩
      refine kk _ _ (fmod_le hn).1 (fmod_le hn).2 ⟨ns, i, _, sd, upd_same, by rw [upd_ne npq.symm]; exact h2, hi0, hi1, hs0, hs1, hl⟩ But.put
    · -- the cell: some int, the box with another place
      refine ⟨_, rfl, p, _, 1, _, rfl, rfl, SqL.of h1, rfl, _, rfl, p, _, 0, _, rfl, rfl, SqL.of h1, rfl, q, _, rfl, .inl (SqL.of h2), _, _, rfl, rfl, _, rfl, ?_⟩
      rw [List.length_map]
      refine ite2 (fun c => ?_) (fun c => ?_)
      · have hlt : i.toNat < ns.length := by have := of_decide_eq_true c; omega
        have hat : (ns.map V.int)[i.toNat]? = some (.int ns[i.toNat]) := by rw [List.getElem?_map, List.getElem?_eq_getElem hlt]; rfl
        refine ⟨_, rfl, p, _, 0, _, rfl, rfl, SqL.of h1, rfl, _, rfl, p, _, 1, _, rfl, rfl, SqL.of h1, rfl, q, _, i, _, rfl, rfl, SqL.of h2, atI0 hi0 hat, ?_⟩
        refine ⟨_, rfl, p, _, 1, _, rfl, rfl, SqL.of h1, by omega, rfl, i, 1, rfl, rfl, p, _, 1, 1, rfl, rfl, h1, rfl, ?_⟩
        generalize ns[i.toNat] = cell
        have g1 : (upd H p (.lst [.ref q, .int (i + 1), .int t, .int sd])) p = some (.lst [.ref q, .int (i + 1), .int t, .int sd]) := upd_same
        have g2 : (upd H p (.lst [.ref q, .int (i + 1), .int t, .int sd])) q = some (.lst (ns.map V.int)) := by rw [upd_ne npq.symm]; exact h2
        have gi0 : 0 ≤ i + 1 := by omega
        have gi1 : i + 1 ≤ ns.length := by omega
        have gb : But p H (upd H p (.lst [.ref q, .int (i + 1), .int t, .int sd])) := But.put
        show tSeq _ _ _ _ (upd H p (.lst [.ref q, .int (i + 1), .int t, .int sd]))
        generalize upd H p (.lst [.ref q, .int (i + 1), .int t, .int sd]) = H2 at g1 g2 gb ⊢
        generalize i + 1 = i2 at g1 gi0 gi1
        refine ⟨_, rfl, 10, 18, rfl, rfl, ⟨by decide, by decide, by decide⟩, _, _, rfl, rfl, _, rfl, ?_⟩
        refine ite2 (fun c2 => ?_) (fun c2 => ?_)
        · refine ⟨_, rfl, _, rfl, _, n, rfl, rfl, ⟨by omega, by omega⟩, _, rfl, p, _, 2, 2, rfl, rfl, g1, rfl, ?_⟩
          refine ⟨_, rfl, _, rfl, _, n, rfl, rfl, (by show n ≠ 0; omega), ?_⟩
          exact kk _ _ (fmod_le hn).1 (fmod_le hn).2 ⟨ns, _, _, sd, upd_same, by rw [upd_ne npq.symm]; exact g2, gi0, gi1, hs0, hs1, hl⟩ (gb.trans But.put)
        · refine ⟨_, rfl, p, _, 3, _, rfl, rfl, SqL.of g1, rfl, ?_⟩
          refine ⟨_, rfl, sd, 3, rfl, rfl, ⟨by decide, by decide, by omega⟩, _, rfl, 69621, sd, rfl, rfl, .inl ⟨by decide, by decide⟩, _, _, rfl, rfl, _, rfl, _, 2147483549, rfl, rfl, (by decide : (2147483549 : Int) ≠ 0),
            48271, _, rfl, rfl, .inl ⟨by decide, by decide⟩, _, _, rfl, rfl, _, _, rfl, rfl, _, 2147483549, rfl, rfl, (by decide : (2147483549 : Int) ≠ 0), _, rfl, p, _, 3, 3, rfl, rfl, g1, rfl, ?_⟩
          refine ⟨_, rfl, p, _, 3, _, rfl, rfl, SqL.of upd_same, rfl, _, 64, rfl, rfl, ⟨by decide, by decide⟩, _, rfl, _, n, rfl, rfl, (by show n ≠ 0; omega), ?_⟩
          exact kk _ _ (fmod_le hn).1 (fmod_le hn).2 ⟨ns, _, _, _, upd_same, by rw [upd_ne npq.symm]; exact g2, gi0, gi1, (fmod_le (by decide)).1, (fmod_le (by decide)).2, hl⟩ (gb.trans But.put)
      · have g1 := h1
        have g2 := h2
        have gi0 := hi0
        have gi1 := hi1
        have gb := But.refl p H
        refine ⟨_, rfl, 10, 18, rfl, rfl, ⟨by decide, by decide, by decide⟩, _, _, rfl, rfl, _, rfl, ?_⟩
        refine ite2 (fun c2 => ?_) (fun c2 => ?_)
        · refine ⟨_, rfl, _, rfl, _, n, rfl, rfl, ⟨by omega, by omega⟩, _, rfl, p, _, 2, 2, rfl, rfl, g1, rfl, ?_⟩
          refine ⟨_, rfl, _, rfl, _, n, rfl, rfl, (by show n ≠ 0; omega), ?_⟩
          exact kk _ _ (fmod_le hn).1 (fmod_le hn).2 ⟨ns, _, _, sd, upd_same, by rw [upd_ne npq.symm]; exact g2, gi0, gi1, hs0, hs1, hl⟩ (gb.trans But.put)
        · refine ⟨_, rfl, p, _, 3, _, rfl, rfl, SqL.of g1, rfl, ?_⟩
          refine ⟨_, rfl, sd, 3, rfl, rfl, ⟨by decide, by decide, by omega⟩, _, rfl, 69621, sd, rfl, rfl, .inl ⟨by decide, by decide⟩, _, _, rfl, rfl, _, rfl, _, 2147483549, rfl, rfl, (by decide : (2147483549 : Int) ≠ 0),
            48271, _, rfl, rfl, .inl ⟨by decide, by decide⟩, _, _, rfl, rfl, _, _, rfl, rfl, _, 2147483549, rfl, rfl, (by decide : (2147483549 : Int) ≠ 0), _, rfl, p, _, 3, 3, rfl, rfl, g1, rfl, ?_⟩
          refine ⟨_, rfl, p, _, 3, _, rfl, rfl, SqL.of upd_same, rfl, _, 64, rfl, rfl, ⟨by decide, by decide⟩, _, rfl, _, n, rfl, rfl, (by show n ≠ 0; omega), ?_⟩
          exact kk _ _ (fmod_le hn).1 (fmod_le hn).2 ⟨ns, _, _, _, upd_same, by rw [upd_ne npq.symm]; exact g2, gi0, gi1, (fmod_le (by decide)).1, (fmod_le (by decide)).2, hl⟩ (gb.trans But.put)
end
end K

namespace K
open PySem PySem.Spec PyProof.Rows L2
abbrev sSame : Stmt := top 39
section
variable {P : Program} {w : World} {K : PySem.W.Frag} {mg : Str → Option Value} {base : Heap}
theorem scSame : FnScope ["_law_found", "_law_due", "_law_x", "_law_y"] ["_law_found", "_law_due"] (defScope sSame) := ⟨rfl, rfl, rfl, by decide +kernel, rfl, by decide +kernel, by decide +kernel⟩
structure SameTxt (mg : Str → Option Value) : Prop where
  isi : mg "isinstance" = none
  lst : mg "list" = none
  tup : mg "tuple" = none
  bool : mg "bool" = none
  int : mg "int" = none
  str : mg "str" = none
  len : mg "len" = none
  all : mg "all" = none
  zip : mg "zip" = none
theorem ok_same {f : Addr} {fd : FuncData} (F : Fun K "_law_same" "_law_same" sSame f fd) (T : SameTxt mg) (gf : mg "_law_same" = some (.ref f)) (b : Binds K fd ["_law_found", "_law_due"] []) : ∀ n : Nat, FnOk P w K mg base CX0 n f fd ["_law_found", "_law_due"] (spSame n)
  | 0 => fnok_never fun vs H Q E ⟨x, y, _, h, _⟩ => h
  | n + 1 => by
    have G := ok_same F T gf b n
    refine F.ok scSame (fun vs H Q E h => ?_) (fun cdv A outer s H vs Q E hr h => ?_)
    · obtain ⟨x, y, rfl, _⟩ := h
      rfl
    · obtain ⟨x, y, rfl, hE, kk⟩ := h
      refine ⟨_, pss_cons (ps_if (pt_val (pe_callB call_isiT (by rfl) T.isi (by decide +kernel) (pa_cons (pv 1) (pa_cons (pe_tup (pa_cons (pe_bltn (v := .ty "list") (by rfl) T.lst (by decide +kernel) rfl) (pa_cons (pe_bltn (v := .ty "tuple") (by rfl) T.tup (by decide +kernel) rfl) pa_nil))) pa_nil))))
          (pss_cons (ps_if (PW.pt (pw_or (pt_cmpR op_ne (pe_callB call_isi (by rfl) T.isi (by decide +kernel) (pa_cons (pv 0) (pa_cons (pe_bltn (v := .ty "list") (by rfl) T.lst (by decide +kernel) rfl) pa_nil)))
                (pe_callB call_isi (by rfl) T.isi (by decide +kernel) (pa_cons (pv 1) (pa_cons (pe_bltn (v := .ty "list") (by rfl) T.lst (by decide +kernel) rfl) pa_nil))) (nomark _))
              (pw_or1 (pt_cmpR op_ne (pe_callB call_isi (by rfl) T.isi (by decide +kernel) (pa_cons (pv 0) (pa_cons (pe_bltn (v := .ty "tuple") (by rfl) T.tup (by decide +kernel) rfl) pa_nil)))
                (pe_callB call_isi (by rfl) T.isi (by decide +kernel) (pa_cons (pv 1) (pa_cons (pe_bltn (v := .ty "tuple") (by rfl) T.tup (by decide +kernel) rfl) pa_nil))) (nomark _))))) (pss_one (ps_ret pe_bl)) pss_nil)
          (pss_one (ps_ret (pe_and (pe_cmpR op_eq (pe_callB call_len_seq (by rfl) T.len PySem.boot_len (pa_cons (pv 0) pa_nil)) (pe_callB call_len_seq (by rfl) T.len PySem.boot_len (pa_cons (pv 1) pa_nil)) (nomark _))
            (pe_one (pe_callB (cr_all rfl) (by rfl) T.all (by decide +kernel) (pa_cons (pe_lc (own := [("_law_x", 2), ("_law_y", 3)]) (g := gTup K 2 (gCons (gName 2) (gCons (gName 3) gNil))) (tt := tYes) rfl scSame.nd (RZ.pi_zipA (by rfl) T.zip (pa_cons (pv 0) (pa_cons (pv 1) pa_nil)))
                (blkOk_by (own := [("_law_x", 2), ("_law_y", 3)]) (N := ["_law_found", "_law_due", "_law_x", "_law_y"]) (sc := defScope sSame) (by decide +kernel))
                (fun _ _ _ _ _ => by exact (pg_tup rfl (pgs_cons (pg_name (i := 2) scSame.nd rfl (Or.inl rfl)) (pgs_cons (pg_name (i := 3) scSame.nd rfl (Or.inl rfl)) pgs_nil)))) (fun _ _ _ _ _ => pts_nil)
                (fun _ _ _ _ _ => pe_call G hr (by rfl) gf F.kp b .nil pass0 (pa_cons (pv 2) (pa_cons (pv 3) pa_nil)))) pa_nil))))))) pss_nil)
        (pss_cons (ps_if (PW.pt (pw_or (pt_cmpR op_ne (pe_cmpR op_isN (pv 0) pe_non (nomark _)) (pe_cmpR op_isN (pv 1) pe_non (nomark _)) (nomark _))
            (pw_or1 (pt_cmpR op_ne (pe_callB call_isi (by rfl) T.isi (by decide +kernel) (pa_cons (pv 0) (pa_cons (pe_bltn (v := .ty "bool") (by rfl) T.bool (by decide +kernel) rfl) pa_nil)))
                (pe_callB call_isi (by rfl) T.isi (by decide +kernel) (pa_cons (pv 1) (pa_cons (pe_bltn (v := .ty "bool") (by rfl) T.bool (by decide +kernel) rfl) pa_nil))) (nomark _))))) (pss_one (ps_ret pe_bl)) pss_nil)
        (pss_cons (ps_if (pt_cmpR op_ne (pe_callB call_isi (by rfl) T.isi (by decide +kernel) (pa_cons (pv 0) (pa_cons (pe_bltn (v := .ty "int") (by rfl) T.int (by decide +kernel) rfl) pa_nil)))
                (pe_callB call_isi (by rfl) T.isi (by decide +kernel) (pa_cons (pv 1) (pa_cons (pe_bltn (v := .ty "int") (by rfl) T.int (by decide +kernel) rfl) pa_nil))) (nomark _)) (pss_one (ps_ret pe_bl)) pss_nil)
        (pss_one (ps_ret (pe_and (pe_cmpR op_eq (pe_callB call_isi (by rfl) T.isi (by decide +kernel) (pa_cons (pv 0) (pa_cons (pe_bltn (v := .ty "str") (by rfl) T.str (by decide +kernel) rfl) pa_nil)))
                (pe_callB call_isi (by rfl) T.isi (by decide +kernel) (pa_cons (pv 1) (pa_cons (pe_bltn (v := .ty "str") (by rfl) T.str (by decide +kernel) rfl) pa_nil))) (nomark _)) (pe_one (pe_cmpR op_eq (pv 0) (pv 1) (nomark _)))))))), ?_⟩
      refine ⟨_, rfl, (by show 2 ≤ sizeLine; decide), fun t nt => ?_⟩
      have s0 : Same H (upd H t (.tup [.ty "list", .ty "tuple"])) := same_upd nt
      have hE1 := Eqv.same s0 hE
      have ht : (upd H t (.tup [.ty "list", .ty "tuple"])) t = some (.tup [.ty "list", .ty "tuple"]) := upd_same
      rcases hE1 with ⟨e, hf⟩ | ⟨a1, a2, xs, ys, rfl, rfl, hab, hl, hz, hi⟩
      · -- flat
        subst e
        cases x with
        | non =>
          refine ⟨_, t, [.ty "list", .ty "tuple"], _, [.type "list", .type "tuple"], false, rfl, ht, .cons (.ty _) (.cons (.ty _) .nil), (.base .non), kit2 (b := false) (c := false) (by decide +kernel) (by decide +kernel), ?_⟩
          refine ⟨_, rfl, iteF ?_⟩
          refine ⟨_, rfl, rfl, _, rfl, rfl, rfl, _, rfl, iteNS rfl ?_⟩
          refine ⟨_, rfl, _, _, _, _, false, rfl, .ty _, (.base .non), kit_ty (by decide +kernel), ?_⟩
          refine ⟨_, rfl, _, _, _, _, false, rfl, .ty _, (.base .non), kit_ty (by decide +kernel), ?_⟩
          refine ⟨rfl, _, rfl, iteNS rfl ?_⟩
          refine ⟨_, rfl, _, _, _, _, false, rfl, .ty _, (.base .non), kit_ty (by decide +kernel), ?_⟩
          refine ⟨_, rfl, _, _, _, _, false, rfl, .ty _, (.base .non), kit_ty (by decide +kernel), ?_⟩
          refine ⟨rfl, _, rfl, iteNS rfl ?_⟩
          refine ⟨_, rfl, _, _, _, _, false, rfl, .ty _, (.base .non), kit_ty (by decide +kernel), ?_⟩
          refine ⟨_, rfl, _, _, _, _, false, rfl, .ty _, (.base .non), kit_ty (by decide +kernel), ?_⟩
          refine ⟨rfl, _, rfl, ?_⟩
          rw [decide_eq_true rfl]
          refine iteT ⟨_, rfl, _, rfl, rfl, ?_⟩
          rw [decide_eq_true rfl]
          exact kk _ s0
        | bl v =>
          refine ⟨_, t, [.ty "list", .ty "tuple"], _, [.type "list", .type "tuple"], false, rfl, ht, .cons (.ty _) (.cons (.ty _) .nil), (.base (.bl v)), kit2 (b := false) (c := false) (by decide +kernel) (by decide +kernel), ?_⟩
          refine ⟨_, rfl, iteF ?_⟩
          refine ⟨_, rfl, rfl, _, rfl, rfl, rfl, _, rfl, iteNS rfl ?_⟩
          refine ⟨_, rfl, _, _, _, _, true, rfl, .ty _, (.base (.bl v)), kit_ty (by decide +kernel), ?_⟩
          refine ⟨_, rfl, _, _, _, _, true, rfl, .ty _, (.base (.bl v)), kit_ty (by decide +kernel), ?_⟩
          refine ⟨rfl, _, rfl, iteNS rfl ?_⟩
          refine ⟨_, rfl, _, _, _, _, true, rfl, .ty _, (.base (.bl v)), kit_ty (by decide +kernel), ?_⟩
          refine ⟨_, rfl, _, _, _, _, true, rfl, .ty _, (.base (.bl v)), kit_ty (by decide +kernel), ?_⟩
          refine ⟨rfl, _, rfl, iteNS rfl ?_⟩
          refine ⟨_, rfl, _, _, _, _, false, rfl, .ty _, (.base (.bl v)), kit_ty (by decide +kernel), ?_⟩
          refine ⟨_, rfl, _, _, _, _, false, rfl, .ty _, (.base (.bl v)), kit_ty (by decide +kernel), ?_⟩
          refine ⟨rfl, _, rfl, ?_⟩
          rw [decide_eq_true rfl]
          refine iteT ⟨_, rfl, _, rfl, rfl, ?_⟩
          rw [decide_eq_true rfl]
          exact kk _ s0
        | int v =>
          refine ⟨_, t, [.ty "list", .ty "tuple"], _, [.type "list", .type "tuple"], false, rfl, ht, .cons (.ty _) (.cons (.ty _) .nil), (.base (.int v)), kit2 (b := false) (c := false) (by decide +kernel) (by decide +kernel), ?_⟩
          refine ⟨_, rfl, iteF ?_⟩
          refine ⟨_, rfl, rfl, _, rfl, rfl, rfl, _, rfl, iteNS rfl ?_⟩
          refine ⟨_, rfl, _, _, _, _, false, rfl, .ty _, (.base (.int v)), kit_ty (by decide +kernel), ?_⟩
          refine ⟨_, rfl, _, _, _, _, false, rfl, .ty _, (.base (.int v)), kit_ty (by decide +kernel), ?_⟩
          refine ⟨rfl, _, rfl, iteNS rfl ?_⟩
          refine ⟨_, rfl, _, _, _, _, true, rfl, .ty _, (.base (.int v)), kit_ty (by decide +kernel), ?_⟩
          refine ⟨_, rfl, _, _, _, _, true, rfl, .ty _, (.base (.int v)), kit_ty (by decide +kernel), ?_⟩
          refine ⟨rfl, _, rfl, iteNS rfl ?_⟩
          refine ⟨_, rfl, _, _, _, _, false, rfl, .ty _, (.base (.int v)), kit_ty (by decide +kernel), ?_⟩
          refine ⟨_, rfl, _, _, _, _, false, rfl, .ty _, (.base (.int v)), kit_ty (by decide +kernel), ?_⟩
          refine ⟨rfl, _, rfl, ?_⟩
          rw [decide_eq_true rfl]
          refine iteT ⟨_, rfl, _, rfl, rfl, ?_⟩
          rw [decide_eq_true rfl]
          exact kk _ s0
        | str v =>
          refine ⟨_, t, [.ty "list", .ty "tuple"], _, [.type "list", .type "tuple"], false, rfl, ht, .cons (.ty _) (.cons (.ty _) .nil), (.base (.str v)), kit2 (b := false) (c := false) (by decide +kernel) (by decide +kernel), ?_⟩
          refine ⟨_, rfl, iteF ?_⟩
          refine ⟨_, rfl, rfl, _, rfl, rfl, rfl, _, rfl, iteNS rfl ?_⟩
          refine ⟨_, rfl, _, _, _, _, false, rfl, .ty _, (.base (.str v)), kit_ty (by decide +kernel), ?_⟩
          refine ⟨_, rfl, _, _, _, _, false, rfl, .ty _, (.base (.str v)), kit_ty (by decide +kernel), ?_⟩
          refine ⟨rfl, _, rfl, iteNS rfl ?_⟩
          refine ⟨_, rfl, _, _, _, _, false, rfl, .ty _, (.base (.str v)), kit_ty (by decide +kernel), ?_⟩
          refine ⟨_, rfl, _, _, _, _, false, rfl, .ty _, (.base (.str v)), kit_ty (by decide +kernel), ?_⟩
          refine ⟨rfl, _, rfl, iteNS rfl ?_⟩
          refine ⟨_, rfl, _, _, _, _, true, rfl, .ty _, (.base (.str v)), kit_ty (by decide +kernel), ?_⟩
          refine ⟨_, rfl, _, _, _, _, true, rfl, .ty _, (.base (.str v)), kit_ty (by decide +kernel), ?_⟩
          refine ⟨rfl, _, rfl, ?_⟩
          rw [decide_eq_true rfl]
          refine iteT ⟨_, rfl, _, rfl, rfl, ?_⟩
          rw [decide_eq_true rfl]
          exact kk _ s0
        | byt v => cases hf
        | flt v => cases hf
        | ref v => cases hf
        | ty v => cases hf
      · rcases hab with ⟨h1, h2⟩ | ⟨h1, h2⟩
        · refine ⟨_, t, [.ty "list", .ty "tuple"], _, [.type "list", .type "tuple"], true, rfl, ht, .cons (.ty _) (.cons (.ty _) .nil), .base (.lst h2), kit2 (b := true) (c := false) (by decide +kernel) (by decide +kernel), ?_⟩
          refine ⟨_, rfl, iteT ?_⟩
          refine ⟨_, rfl, _, _, _, _, true, rfl, .ty _, .base (.lst h1), kit_ty (by decide +kernel), ?_⟩
          refine ⟨_, rfl, _, _, _, _, true, rfl, .ty _, .base (.lst h2), kit_ty (by decide +kernel), ?_⟩
          refine ⟨rfl, _, rfl, iteNS rfl ?_⟩
          refine ⟨_, rfl, _, _, _, _, false, rfl, .ty _, .base (.lst h1), kit_ty (by decide +kernel), ?_⟩
          refine ⟨_, rfl, _, _, _, _, false, rfl, .ty _, .base (.lst h2), kit_ty (by decide +kernel), ?_⟩
          refine ⟨rfl, _, rfl, iteNS rfl ?_⟩
          refine ⟨_, rfl, a1, xs, rfl, .inl (SqL.of h1), _, rfl, a2, ys, rfl, .inl (SqL.of h2), rfl, _, rfl, ?_⟩
          rw [hl, decide_eq_true rfl]
          refine iteT ?_
          refine ⟨_, rfl, _, rfl, a1, a2, xs, ys, rfl, .inl ⟨SqL.of h1, SqL.of h2, fun D nD => ?_⟩⟩
          refine lc_it (walk_zip (xs := xs) (ys := ys) (n := xs.length) (by rw [hl]; simp)) (fun i H' => Same (upd H t (.tup [.ty "list", .ty "tuple"])) H' ∧ H' D = some (.lst ((List.replicate i true).map V.bl)))
            ⟨same_upd nD, upd_same⟩ (fun i H' _ ⟨s1, _⟩ => ⟨SqL.of (s1 _ _ h1), SqL.of (s1 _ _ h2)⟩) ?_ ?_
          · rintro i x H' H2 hi1 ⟨s1, hD⟩ ⟨T2, x', y', rfl, hT, rfl, f1, f2⟩
            have s2 := same_upd (o := .tup [x', y']) hT
            refine ⟨T2, [x', y'], rfl, .inl (.inl upd_same), rfl, x', [y'], rfl, y', [], rfl, rfl, rfl, ?_⟩
            refine ⟨_, rfl, _, rfl, x', y', rfl, (hi i x' y' f1 f2).same (s1.trans s2), fun H3 s3 => ?_⟩
            refine ⟨_, s3 _ _ (s2 _ _ hD), ?_, ?_, ?_⟩
            · rw [List.length_map, List.length_replicate]; exact small1000 (by omega)
            · intro b o e
              rw [upd_ne (ne_of_none e nD)]
              exact s3 _ _ (s2 _ _ (s1 _ _ e))
            · rw [upd_same, List.replicate_succ', List.map_append]
              rfl
          · rintro H' ⟨s1, hD⟩
            refine ⟨D, List.replicate xs.length true, rfl, .inl (.inl hD), ?_⟩
            have e : (List.replicate xs.length true).all id = true := by simp
            rw [e]
            exact kk _ (s0.trans s1)
        · refine ⟨_, t, [.ty "list", .ty "tuple"], _, [.type "list", .type "tuple"], true, rfl, ht, .cons (.ty _) (.cons (.ty _) .nil), .base (.tup h2), kit2 (b := false) (c := true) (by decide +kernel) (by decide +kernel), ?_⟩
          refine ⟨_, rfl, iteT ?_⟩
          refine ⟨_, rfl, _, _, _, _, false, rfl, .ty _, .base (.tup h1), kit_ty (by decide +kernel), ?_⟩
          refine ⟨_, rfl, _, _, _, _, false, rfl, .ty _, .base (.tup h2), kit_ty (by decide +kernel), ?_⟩
          refine ⟨rfl, _, rfl, iteNS rfl ?_⟩
          refine ⟨_, rfl, _, _, _, _, true, rfl, .ty _, .base (.tup h1), kit_ty (by decide +kernel), ?_⟩
          refine ⟨_, rfl, _, _, _, _, true, rfl, .ty _, .base (.tup h2), kit_ty (by decide +kernel), ?_⟩
          refine ⟨rfl, _, rfl, iteNS rfl ?_⟩
          refine ⟨_, rfl, a1, xs, rfl, .inr (SqT.of h1), _, rfl, a2, ys, rfl, .inr (SqT.of h2), rfl, _, rfl, ?_⟩
          rw [hl, decide_eq_true rfl]
          refine iteT ?_
          refine ⟨_, rfl, _, rfl, a1, a2, xs, ys, rfl, .inr ⟨SqT.of h1, SqT.of h2, fun D nD => ?_⟩⟩
          refine lc_it (walk_zipTT (xs := xs) (ys := ys) (n := xs.length) (by rw [hl]; simp)) (fun i H' => Same (upd H t (.tup [.ty "list", .ty "tuple"])) H' ∧ H' D = some (.lst ((List.replicate i true).map V.bl)))
            ⟨same_upd nD, upd_same⟩ (fun i H' _ ⟨s1, _⟩ => ⟨SqT.of (s1 _ _ h1), SqT.of (s1 _ _ h2)⟩) ?_ ?_
          · rintro i x H' H2 hi1 ⟨s1, hD⟩ ⟨T2, x', y', rfl, hT, rfl, f1, f2⟩
            have s2 := same_upd (o := .tup [x', y']) hT
            refine ⟨T2, [x', y'], rfl, .inl (.inl upd_same), rfl, x', [y'], rfl, y', [], rfl, rfl, rfl, ?_⟩
            refine ⟨_, rfl, _, rfl, x', y', rfl, (hi i x' y' f1 f2).same (s1.trans s2), fun H3 s3 => ?_⟩
            refine ⟨_, s3 _ _ (s2 _ _ hD), ?_, ?_, ?_⟩
            · rw [List.length_map, List.length_replicate]; exact small1000 (by omega)
            · intro b o e
              rw [upd_ne (ne_of_none e nD)]
              exact s3 _ _ (s2 _ _ (s1 _ _ e))
            · rw [upd_same, List.replicate_succ', List.map_append]
              rfl
          · rintro H' ⟨s1, hD⟩
            refine ⟨D, List.replicate xs.length true, rfl, .inl (.inl hD), ?_⟩
            have e : (List.replicate xs.length true).all id = true := by simp
            rw [e]
            exact kk _ (s0.trans s1)
end
end K

namespace K
open PySem PySem.Spec PyProof.Rows L2
abbrev sSlipI : Stmt := inClass (top 10) 0
section
variable {P : Program} {w : World} {K : PySem.W.Frag} {mg : Str → Option Value} {base : Heap}
theorem scSlipI : FnScope ["self", "word", "why"] ["self", "word", "why"] (defScope sSlipI) := ⟨rfl, rfl, rfl, by decide +kernel, rfl, by decide +kernel, by decide +kernel⟩
theorem ok_slipI {f CS fS : Addr} {fd : FuncData} {k : Nat} {dvs : List V} (F : FunD K "__init__" "SlipError.__init__" (defArgs sSlipI) (defBody sSlipI) (defScope sSlipI) dvs [] f fd) (T : SlipT K mg CS fS) : FnOk P w K mg base CX0 (k + 1) f fd ["self", "word", "why"] (spSlip K) := by
  refine F.ok scSlipI (fun vs H Q E h => ?_) (fun cdv A outer s H vs Q E hr h => ?_)
  · obtain ⟨a, C, wd, y, rfl, _⟩ := h
    rfl
  · obtain ⟨a, C, wd, y, rfl, oex, hw, ha, q⟩ := h
    refine ⟨_, PSs.nox (pss_cons (ps_expr (pe_veinit (by rfl) T.mV T.vV (pa_cons (pv 0) (pa_cons (pv 2) pa_nil)))) (pss_one (ps_ost (pv 0) (pv 1)))), ?_⟩
    refine ⟨_, rfl, _, rfl, a, C, [.str y], rfl, (by show 1 ≤ 1000; decide), oex, ha, ?_⟩
    exact ⟨_, rfl, _, rfl, a, C, rfl, oex, hw, .inl ⟨ha, fun dx n ne => q dx n ne⟩⟩
end
end K

namespace K
open PySem PySem.Spec PyProof.Rows L2
abbrev sTooManyI : Stmt := inClass (top 14) 0
section
variable {P : Program} {w : World} {K : PySem.W.Frag} {mg : Str → Option Value} {base : Heap}
theorem scTooManyI : FnScope ["self", "bound"] ["self", "bound"] (defScope sTooManyI) := ⟨rfl, rfl, rfl, by decide +kernel, rfl, by decide +kernel, by decide +kernel⟩
theorem ok_toomanyI {f CS fS : Addr} {fd fdS : FuncData} {k : Nat} (F : Fun K "__init__" "TooMany.__init__" sTooManyI f fd) (T : SlipT K mg CS fS) (GS : FnOk P w K mg base CX0 (k + 1) fS fdS ["self", "word", "why"] (spSlip K)) (bS : Binds K fdS ["self", "word", "why"] []) : FnOk P w K mg base CX0 (k + 2) f fd ["self", "bound"] (spIn1 K "bound" "toomany" askInt gotSame) := by
  refine F.ok scTooManyI (fun vs H Q E h => ?_) (fun cdv A outer s H vs Q E hr h => ?_)
  · obtain ⟨a, C, v, rfl, _⟩ := h
    rfl
  · obtain ⟨a, C, v, rfl, hask, oex, hw, hf, ha, q⟩ := h
    refine ⟨_, pss_cons (ps_expr (pe_clsf (pe_glob (v := .ref CS) (by rfl) T.g rfl) T.r T.at_ GS hr T.kp bS pass0 (pa_cons (pv 0) (pa_cons pe_str (pa_cons (pe_joined (.cons pe_str (.cons (pe_fmt (pv 1)) .nil))) pa_nil))))) (pss_one (ps_ost (pv 0) (pv 1))), ?_⟩
    obtain ⟨i, rfl, hi⟩ := hask
    refine ⟨rfl, _, rfl, _, rfl, by decide +kernel, _, rfl, .inr ⟨i, rfl, hi, _, rfl, join2_le (by decide +kernel) (Nat.le_trans (PyProof.Rows.int_text_len_1921 hi) (by decide)), ?_⟩⟩
    refine ⟨a, C, _, _, rfl, oex, hw, ha, fun dx nd ne => ?_⟩
    refine ⟨_, rfl, _, rfl, a, C, rfl, oex, hf, .inr ⟨dx, _, upd_same, by rw [upd_ne ne]; exact upd_same, (by show 1 ≤ 900; decide), ?_⟩⟩
    refine q dx _ _ nd ne (fun b o e hb => ?_) ?_ upd_same rfl
    · rw [upd_ne (ne_of_none e nd), upd_ne hb, upd_ne (ne_of_none e nd)]
      exact e
    · rw [upd_ne (Ne.symm ne)]
      exact upd_same
end
end K

namespace K
open PySem PySem.Spec PyProof.Rows L2
abbrev sBadRangeI : Stmt := inClass (top 11) 0
section
variable {P : Program} {w : World} {K : PySem.W.Frag} {mg : Str → Option Value} {base : Heap}
theorem scBadRangeI : FnScope ["self"] ["self"] (defScope sBadRangeI) := ⟨rfl, rfl, rfl, by decide +kernel, rfl, by decide +kernel, by decide +kernel⟩
theorem ok_badrangeI {f CS fS : Addr} {fd fdS : FuncData} {k : Nat} (F : Fun K "__init__" "BadRange.__init__" sBadRangeI f fd) (T : SlipT K mg CS fS) (GS : FnOk P w K mg base CX0 (k + 1) fS fdS ["self", "word", "why"] (spSlip K)) (bS : Binds K fdS ["self", "word", "why"] []) : FnOk P w K mg base CX0 (k + 2) f fd ["self"] (spIn0 K "badrange") := by
  refine F.ok scBadRangeI (fun vs H Q E h => ?_) (fun cdv A outer s H vs Q E hr h => ?_)
  · obtain ⟨a, C, rfl, _⟩ := h
    rfl
  · obtain ⟨a, C, rfl, oex, hw, ha, q⟩ := h
    refine ⟨_, pss_one (ps_expr (pe_clsf (pe_glob (v := .ref CS) (by rfl) T.g rfl) T.r T.at_ GS hr T.kp bS pass0 (pa_cons (pv 0) (pa_cons pe_str (pa_cons pe_str pa_nil))))), ?_⟩
    refine ⟨rfl, _, rfl, a, C, _, _, rfl, oex, hw, ha, fun dx nd ne => ?_⟩
    refine q dx _ nd ne (fun b o e hb => ?_) upd_same (by rw [upd_ne ne]; exact upd_same)
    rw [upd_ne hb, upd_ne (ne_of_none e nd)]
    exact e
end
end K

namespace K
open PySem PySem.Spec PyProof.Rows L2
abbrev sNoNumberI : Stmt := inClass (top 13) 0
section
variable {P : Program} {w : World} {K : PySem.W.Frag} {mg : Str → Option Value} {base : Heap}
theorem scNoNumberI : FnScope ["self"] ["self"] (defScope sNoNumberI) := ⟨rfl, rfl, rfl, by decide +kernel, rfl, by decide +kernel, by decide +kernel⟩
theorem ok_nonumberI {f CS fS : Addr} {fd fdS : FuncData} {k : Nat} (F : Fun K "__init__" "NoNumber.__init__" sNoNumberI f fd) (T : SlipT K mg CS fS) (GS : FnOk P w K mg base CX0 (k + 1) fS fdS ["self", "word", "why"] (spSlip K)) (bS : Binds K fdS ["self", "word", "why"] []) : FnOk P w K mg base CX0 (k + 2) f fd ["self"] (spIn0 K "nonumber") := by
  refine F.ok scNoNumberI (fun vs H Q E h => ?_) (fun cdv A outer s H vs Q E hr h => ?_)
  · obtain ⟨a, C, rfl, _⟩ := h
    rfl
  · obtain ⟨a, C, rfl, oex, hw, ha, q⟩ := h
    refine ⟨_, pss_one (ps_expr (pe_clsf (pe_glob (v := .ref CS) (by rfl) T.g rfl) T.r T.at_ GS hr T.kp bS pass0 (pa_cons (pv 0) (pa_cons pe_str (pa_cons pe_str pa_nil))))), ?_⟩
    refine ⟨rfl, _, rfl, a, C, _, _, rfl, oex, hw, ha, fun dx nd ne => ?_⟩
    refine q dx _ nd ne (fun b o e hb => ?_) upd_same (by rw [upd_ne ne]; exact upd_same)
    rw [upd_ne hb, upd_ne (ne_of_none e nd)]
    exact e
end
end K

namespace K
open PySem PySem.Spec PyProof.Rows L2
abbrev sIsRange : Stmt := top 28
abbrev sNumI : Stmt := inClass (top 29) 0
abbrev sNumTake : Stmt := inClass (top 29) 1
section
variable {P : Program} {w : World} {K : PySem.W.Frag} {mg : Str → Option Value} {base : Heap}
theorem scIsRange : FnScope ["low", "high"] ["low", "high"] (defScope sIsRange) := ⟨rfl, rfl, rfl, by decide +kernel, rfl, by decide +kernel, by decide +kernel⟩
theorem ok_isrange {f : Addr} {fd : FuncData} {k : Nat} {t1 t2 : Tok} (F : Fun K "is_range" "is_range" sIsRange f fd) (mA : mg "MOST_ABOVE" = some (.int 63 t1)) (mM : mg "MOST_NUMBER" = some (.int 9999 t2)) : FnOk P w K mg base CX0 (k + 1) f fd ["low", "high"] spIsRange := by
  refine F.ok scIsRange (fun vs H Q E h => ?_) (fun cdv A outer s H vs Q E hr h => ?_)
  · obtain ⟨lo, hi, rfl, _⟩ := h
    rfl
  · obtain ⟨lo, hi, rfl, kk⟩ := h
    refine ⟨_, pss_one (ps_ret (pe_and (pe_chain3 op_le op_le op_le pe_int (pv 0) (pv 1) (pe_op op_add (pv 0) (pe_glob (v := .int 63) (by rfl) mA ⟨_, rfl⟩))) (pe_one (pe_cmpR op_le (pv 1) (pe_glob (v := .int 9999) (by rfl) mM ⟨_, rfl⟩) (nomark _))))), ?_⟩
    refine ⟨_, rfl, _, _, rfl, rfl, _, rfl, ite2 (fun c => ?_) (fun c => ?_)⟩
    · have c := of_decide_eq_true c
      refine ⟨_, rfl, _, _, rfl, rfl, _, rfl, ite2 (fun c2 => ?_) (fun c2 => ?_)⟩
      · have c2 := of_decide_eq_true c2
        refine ⟨_, rfl, _, _, rfl, rfl, _, _, rfl, rfl, _, rfl, ite2 (fun c3 => ?_) (fun c3 => ?_)⟩
        · have c3 := of_decide_eq_true c3
          refine ⟨_, rfl, _, _, rfl, rfl, ?_⟩
          exact kk _ ⟨fun z => ⟨c, c2, c3, of_decide_eq_true z⟩, fun z => decide_eq_true z.2.2.2⟩
        · exact kk _ ⟨fun z => (by cases z), fun z => absurd (decide_eq_true z.2.2.1) c3⟩
      · exact ⟨_, rfl, iteF (kk _ ⟨fun z => (by cases z), fun z => absurd (decide_eq_true z.2.1) c2⟩)⟩
    · exact ⟨_, rfl, iteF (kk _ ⟨fun z => (by cases z), fun z => absurd (decide_eq_true z.1) c⟩)⟩
theorem scNumI : FnScope ["self", "low", "high"] ["self", "low", "high"] (defScope sNumI) := ⟨rfl, rfl, rfl, by decide +kernel, rfl, by decide +kernel, by decide +kernel⟩
theorem ok_numI {f C fI fR : Addr} {fd fdR : FuncData} {k : Nat} (F : Fun K "__init__" "Numbers.__init__" sNumI f fd) (T : NumT K mg C fI) (cR : Cal P w K mg base (k + 1) "is_range" fR fdR ["low", "high"] spIsRange) : FnOk P w K mg base CX0 (k + 2) f fd ["self", "low", "high"] (spNumI C) := by
  refine F.ok scNumI (fun vs H Q E h => ?_) (fun cdv A outer s H vs Q E hr h => ?_)
  · obtain ⟨x, dx, lo, hi, rfl, _⟩ := h
    rfl
  · obtain ⟨x, dx, lo, hi, rfl, hx, hg, kk⟩ := h
    refine ⟨_, pss_cons (ps_if (pt_not (pt_val (pe_call cR.ok hr (by rfl) cR.g cR.kp cR.b .nil pass0 (pa_cons (pv 1) (pa_cons (pv 2) pa_nil))))) (pss_one ps_never) pss_nil)
      (pss_cons (ps_fld (pv 0) (pv 1) rfl) (pss_cons (ps_fld (pv 0) (pv 2) rfl) (pss_one (ps_fld (pv 0) pe_dnewK rfl)))), ?_⟩
    refine ⟨_, rfl, _, rfl, lo, hi, rfl, fun b hb => ⟨_, rfl, ?_⟩⟩
    have eb : b = true := hb.mpr hg
    subst eb
    refine iteF ?_
    refine ⟨_, rfl, _, rfl, x, C, dx, _, rfl, hx, T.cl, T.nl, (by show 0 < 1000; decide), ?_⟩
    refine ⟨_, rfl, _, rfl, x, C, dx, _, rfl, upd_same, T.cl, T.nh, (by show 1 < 1000; decide), ?_⟩
    refine fun d nd => ⟨_, rfl, x, C, dx, _, rfl, (by rw [upd_ne (ne_of_none upd_same nd)]; exact upd_same), T.cl, T.nd, (by show 2 < 1000; decide), ?_⟩
    have nxd : x ≠ d := ne_of_none upd_same nd
    have nd0 : H d = none := by
      rw [upd_ne (Ne.symm nxd), upd_ne (Ne.symm nxd)] at nd
      exact nd
    refine kk d _ nd0 (fun b o e hb => ?_) ⟨upd_same, ?_⟩
    · rw [upd_ne hb, upd_ne (ne_of_none e nd0), upd_ne hb, upd_ne hb]
      exact e
    · rw [upd_ne (Ne.symm nxd)]
      exact upd_same
theorem scNumTake : FnScope ["self", "number"] ["self"] (defScope sNumTake) := ⟨rfl, rfl, rfl, by decide +kernel, rfl, by decide +kernel, by decide +kernel⟩
theorem ok_numTake {f C fI CN fN : Addr} {fd fdN : FuncData} {k : Nat} (F : Fun K "take" "Numbers.take" sNumTake f fd) (T : NumT K mg C fI) (mr : mg "range" = none) (N : ExcC P w K mg base (k + 2) "NoNumber" CN fN fdN ["self"] (spIn0 K "nonumber")) : FnOk P w K mg base (L2.CX P w) (k + 4) f fd ["self"] (spNTake C CN) := by
  refine F.okX scNumTake (fun vs H Q E h => ?_) (fun cdv A outer s H vs Q E hr h => ?_)
  · obtain ⟨x, dx, d, lo, hi, us, rfl, _⟩ := h
    rfl
  · obtain ⟨x, dx, d, lo, hi, us, rfl, hN, hg, hul, hno, kk⟩ := h
    have hr3 : Room (k + 3) _ := hr
    have hu := hu_of hr
    refine ⟨_, pss_cons (PS.nox (ps_for PassesOwn.never rfl (pi_range2 (by rfl) mr (pa_cons (pe_fld (pv 0) rfl) (pa_cons (pe_op op_add (pe_fld (pv 0) rfl) pe_int) pa_nil))) (pg_name (i := 1) scNumTake.nd rfl (Or.inl rfl))
        (pss_one (ps_if (pt_cmp (pc_dnotin hu (pv 1) (pe_fld (pv 0) rfl))) (pss_cons (ps_dput hu (pe_fld (pv 0) rfl) (pv 1) pe_bl rfl) (pss_one (ps_ret (pv 1)))) pss_nil))))
      (pss_one (ps_raise rfl (takes_of rfl rfl rfl rfl) (pmk_oex0 N.t.oex N.t.iC N.t.tI N.ok hr3 N.b pass0 (by rfl) N.t.g))), ?_⟩
    obtain ⟨g1, g2, g3, g4⟩ := hg
    refine ⟨_, rfl, x, C, dx, _, _, rfl, hN.1, T.cl, T.nl, rfl, _, rfl, x, C, dx, _, _, rfl, hN.1, T.cl, T.nh, rfl, _, _, rfl, rfl, _, _, rfl, ⟨by omega, by omega, by omega, by omega⟩, ?_⟩
    have ew : (hi + 1 - lo).toNat = wide lo hi := rfl
    refine for_range (lo := lo) (n := wide lo hi) (fun i σ H' => ∃ y, σ = [some (.ref x), y] ∧ H' = H ∧ spare us i lo = []) ⟨_, rfl, rfl, rfl⟩ ?_ ?_
    · rintro i σ H2 hi' ⟨y, rfl, rfl, hs⟩
      refine ⟨_, rfl, _, rfl, x, C, dx, _, _, rfl, hN.1, T.cl, T.nd, rfl, d, _, rfl, DGet.k (k := Sum.inl (lo + i)) hN.2, _, rfl, ?_⟩
      have hsp := spare_add us i (wide lo hi - i) lo
      rw [show i + (wide lo hi - i) = wide lo hi by omega, hs, List.nil_append, show wide lo hi - i = (wide lo hi - i - 1) + 1 by omega, spare_s] at hsp
      by_cases c : lo + (i : Int) ∈ us
      · rw [held_in c]
        refine iteF ?_
        refine ⟨_, rfl, rfl, ?_⟩
        rw [spare_succ, hs, if_pos c]
        rfl
      · rw [held_no c]
        rw [if_neg c] at hsp
        refine iteT ?_
        refine ⟨_, rfl, x, C, dx, _, _, rfl, hN.1, T.cl, T.nd, rfl, _, rfl, d, _, rfl, DPut.k (k := Sum.inl (lo + i)) hN.2 (by unfold heldK; rw [List.length_map]; exact small1000 hul), ?_⟩
        rw [held_put c]
        exact ⟨_, rfl, kk _ _ hsp⟩
    · rintro σ H2 ⟨y, rfl, rfl, hs⟩
      refine ⟨(by show 0 ≤ 1000; decide), fun a na => ?_⟩
      have hX := hno hs
      refine ⟨a, CN, rfl, N.t.oex, N.t.word, upd_same, fun dx2 H3 nd ne k2 ha2 hd2 => ⟨rfl, dx2, _, ha2, hd2, ?_, ?_⟩⟩
      · rw [upd_ne ne] at nd
        exact nd
      · have nd0 : H2 dx2 = none := by rw [upd_ne ne] at nd; exact nd
        exact hX dx2 _ nd0 (raised_same na (fun b o e hb => k2 b o (by rw [upd_ne hb]; exact e) hb) nd0) upd_same
end
end K

namespace K
open PySem PySem.Spec PyProof.Rows L2
abbrev sSlpI : Stmt := inClass (top 2) 0
abbrev sMakeSlip : Stmt := top 4
def spSlpI (C : Addr) : Sp := fun vs H Q _ => ∃ (x dx : Addr) (n age : Int) (wh out pa : V), vs = [.ref x, .int n, wh, out, pa, .int age] ∧ H x = some (.ins C dx []) ∧
  ∀ (d : Addr) (H' : Hp), H d = none → Off [x] H H' → H' x = some (.ins C dx (slipF n wh out pa age "live" d)) → H' d = some (.dK []) → Q .non H'
section
variable {P : Program} {w : World} {K : PySem.W.Frag} {mg : Str → Option Value} {base : Heap}
theorem scSlpI : FnScope ["self", "number", "what", "out", "path", "age"] ["self", "number", "what", "out", "path", "age"] (defScope sSlpI) := ⟨rfl, rfl, rfl, by decide +kernel, rfl, by decide +kernel, by decide +kernel⟩
theorem ok_slpI {f C fI : Addr} {fd : FuncData} {k : Nat} (F : Fun K "__init__" "Slip.__init__" sSlpI f fd) (T : ClsT K mg "Slip" C fI slipFs) : FnOk P w K mg base CX0 (k + 1) f fd ["self", "number", "what", "out", "path", "age"] (spSlpI C) := by
  refine F.ok scSlpI (fun vs H Q E h => ?_) (fun cdv A outer s H vs Q E hr h => ?_)
  · obtain ⟨x, dx, n, age, wh, out, pa, rfl, _⟩ := h
    rfl
  · obtain ⟨x, dx, n, age, wh, out, pa, rfl, hx, kk⟩ := h
    refine ⟨_, pss_cons (ps_fld (pv 0) (pv 1) rfl) (pss_cons (ps_fld (pv 0) (pv 2) rfl) (pss_cons (ps_fld (pv 0) (pv 3) rfl) (pss_cons (ps_fld (pv 0) (pv 4) rfl) (pss_cons (ps_fld (pv 0) (pv 5) rfl) (pss_cons (ps_fld (pv 0) pe_str rfl) (pss_one (ps_fld (pv 0) pe_dnewK rfl))))))), ?_⟩
    refine ⟨_, rfl, _, rfl, x, C, dx, _, rfl, hx, T.cl, T.na _ (by decide), (by show 0 < 1000; decide), ?_⟩
    refine ⟨_, rfl, _, rfl, x, C, dx, _, rfl, upd_same, T.cl, T.na _ (by decide), (by show 1 < 1000; decide), ?_⟩
    refine ⟨_, rfl, _, rfl, x, C, dx, _, rfl, upd_same, T.cl, T.na _ (by decide), (by show 2 < 1000; decide), ?_⟩
    refine ⟨_, rfl, _, rfl, x, C, dx, _, rfl, upd_same, T.cl, T.na _ (by decide), (by show 3 < 1000; decide), ?_⟩
    refine ⟨_, rfl, _, rfl, x, C, dx, _, rfl, upd_same, T.cl, T.na _ (by decide), (by show 4 < 1000; decide), ?_⟩
    refine ⟨_, rfl, x, C, dx, _, rfl, upd_same, T.cl, T.na _ (by decide), (by show 5 < 1000; decide), ?_⟩
    refine fun d nd => ⟨_, rfl, x, C, dx, _, rfl, (by rw [upd_ne (ne_of_none upd_same nd)]; exact upd_same), T.cl, T.na _ (by decide), (by show 6 < 1000; decide), ?_⟩
    have nxd : x ≠ d := ne_of_none upd_same nd
    have nd0 : H d = none := by
      repeat rw [upd_ne (Ne.symm nxd)] at nd
      exact nd
    refine kk d _ nd0 (fun b o e hb => ?_) upd_same (by rw [upd_ne (Ne.symm nxd)]; exact upd_same)
    have hb : b ≠ x := fun z => hb (by simp [z])
    rw [upd_ne hb, upd_ne (ne_of_none e nd0), upd_ne hb, upd_ne hb, upd_ne hb, upd_ne hb, upd_ne hb, upd_ne hb]
    exact e
theorem scMakeSlip : FnScope ["web", "home", "what", "out", "path", "holders", "slip", "holder"] ["web", "home", "what", "out", "path", "holders"] (defScope sMakeSlip) := ⟨rfl, rfl, rfl, by decide +kernel, rfl, by decide +kernel, by decide +kernel⟩
/-- a slip made without holders -/
def spMakeSlip (CW CH CN CS : Addr) : Sp := fun vs H Q _ => ∃ (wb dw hl b ml bo hm dh nu dn dhd sg wt st nw qu hs : Addr) (e nm lo hi j : Int) (us r : List Int) (kvs : List (Key × V)) (wh out pa : V),
  vs = [.ref wb, .ref hm, wh, out, pa, .ref hs] ∧ H wb = some (.ins CW dw (webF hl b ml bo e)) ∧ H hm = some (.ins CH dh (homeF nm nu sg wt st nw qu)) ∧ NumAt H CN nu dn dhd lo hi us ∧ goodR lo hi ∧ us.length ≤ 900 ∧ H st = some (.dK kvs) ∧ kvs.length ≤ 900 ∧
  H hs = some (.lst []) ∧ dhd ≠ st ∧ spare us (wide lo hi) lo = j :: r ∧
  ∀ (sl d dsl : Addr) (H' : Hp), H sl = none → H d = none → Off [wb, dhd, st] H H' → H' wb = some (.ins CW dw (webF hl b ml bo (e + 1))) → H' dhd = some (.dK (heldK (us ++ [j]))) → H' st = some (.dK (putK kvs (Sum.inl j) (.ref sl))) →
    H' sl = some (.ins CS dsl (slipF j wh out pa (e + 1) "live" d)) → H' d = some (.dK []) → Q (.ref sl) H'
theorem ok_makeSlip {f CW fW CH fH CN fN CS fS fT CE : Addr} {fd fdT fdS : FuncData} {k : Nat} (F : Fun K "make_slip" "make_slip" sMakeSlip f fd) (TW : ClsT K mg "Web" CW fW webFs) (TH : ClsT K mg "House" CH fH homeFs) (TN : NumT K mg CN fN) (TS : ClsT K mg "Slip" CS fS slipFs)
    (mT : Meth K CN "take" fT) (GT : FnOk P w K mg base (L2.CX P w) (k + 1) fT fdT ["self"] (spNTake CN CE)) (bT : Binds K fdT ["self"] []) (GI : FnOk P w K mg base CX0 k fS fdS ["self", "number", "what", "out", "path", "age"] (spSlpI CS)) (bI : Binds K fdS ["self", "number", "what", "out", "path", "age"] []) :
    FnOk P w K mg base CX0 (k + 2) f fd ["web", "home", "what", "out", "path", "holders"] (spMakeSlip CW CH CN CS) := by
  refine F.ok scMakeSlip (fun vs H Q E h => ?_) (fun cdv A outer s H vs Q E hr h => ?_)
  · obtain ⟨wb, dw, hl, b, ml, bo, hm, dh, nu, dn, dhd, sg, wt, st, nw, qu, hs, e, nm, lo, hi, j, us, r, kvs, wh, out, pa, rfl, _⟩ := h
    rfl
  · obtain ⟨wb, dw, hl, b, ml, bo, hm, dh, nu, dn, dhd, sg, wt, st, nw, qu, hs, e, nm, lo, hi, j, us, r, kvs, wh, out, pa, rfl, hw, hh, hN, hg, hul, hst, hkl, hhs, nds, hsp, kk⟩ := h
    have hu := hu_of hr
    refine ⟨_, pss_cons (ps_fldaug (pv 0) pe_int in_add)
      (pss_cons (ps_set (i := 6) scMakeSlip.nd rfl (.inl rfl) (pe_make TS.made GI hr (by rfl) TS.g bI .nil pass0 (pa_cons (pe_meth0 (pe_fld (pv 1) rfl) TN.cl mT (calm_fn GT) hr bT .nil pass0) (pa_cons (pv 2) (pa_cons (pv 3) (pa_cons (pv 4) (pa_cons (pe_fld (pv 0) rfl) pa_nil)))))))
      (pss_cons (ps_for PassesOwn.never rfl (pi_list (pv 5)) (pg_name (i := 7) scMakeSlip.nd rfl (Or.inl rfl)) (pss_one ps_never))
      (pss_cons (ps_dput hu (pe_fld (pv 1) rfl) (pe_fld (pv 6) rfl) (pv 6) rfl) (pss_one (ps_ret (pv 6)))))), ?_⟩
    refine ⟨_, rfl, wb, CW, dw, _, .int e, rfl, hw, TW.cl, TW.na _ (by decide), rfl, _, _, rfl, rfl, dw, _, hw, (by show 5 < 1000; decide), ?_⟩
    have hN1 := hN.1
    have hN2 := hN.2
    have nw_h : hm ≠ wb := ne_of hh hw (fun z => by injection z with _ _ z; injection z with z; injection z with z; cases z)
    have nw_n : nu ≠ wb := ne_of hN1 hw (fun z => by injection z with _ _ z; injection z with z; injection z with z; cases z)
    have nw_d : dhd ≠ wb := ne_of hN2 hw (fun z => by cases z)
    have nw_s : st ≠ wb := ne_of hst hw (fun z => by cases z)
    have nw_l : hs ≠ wb := ne_of hhs hw (fun z => by cases z)
    have nd_h : hm ≠ dhd := ne_of hh hN2 (fun z => by cases z)
    have nd_n : nu ≠ dhd := ne_of hN1 hN2 (fun z => by cases z)
    have nd_l : hs ≠ dhd := ne_of hhs hN2 (fun z => by cases z)
    have ns_h : hm ≠ st := ne_of hh hst (fun z => by cases z)
    have ep : putF "ever" (.int (e + 1)) (webF hl b ml bo e) = webF hl b ml bo (e + 1) := rfl
    show tSeq _ _ _ _ (upd H wb (.ins CW dw (putF "ever" (.int (e + 1)) (webF hl b ml bo e))))
    rw [ep]
    have oA : Off [wb] H (upd H wb (.ins CW dw (webF hl b ml bo (e + 1)))) := fun x o z nx => by rw [upd_ne (fun q => nx (by simp [q]))]; exact z
    have hwA : upd H wb (.ins CW dw (webF hl b ml bo (e + 1))) wb = some (.ins CW dw (webF hl b ml bo (e + 1))) := upd_same
    have freeA : ∀ x, upd H wb (.ins CW dw (webF hl b ml bo (e + 1))) x = none → H x = none := fun x z => by
      by_cases q : x = wb
      · rw [q, upd_same] at z; cases z
      · rw [upd_ne q] at z; exact z
    generalize upd H wb (.ins CW dw (webF hl b ml bo (e + 1))) = HA at *
    have one : ∀ {x o}, H x = some o → x ≠ wb → HA x = some o := fun z n => oA _ _ z (by simp [n])
    refine ⟨_, rfl, hm, CH, dh, _, .ref nu, rfl, one hh nw_h, TH.cl, TH.na _ (by decide), rfl, nu, dn, _, rfl, one hN1 nw_n, rfl, nu, dn, dhd, lo, hi, us, rfl, ⟨one hN1 nw_n, one hN2 nw_d⟩, hg, by omega, (fun z => by rw [hsp] at z; cases z), fun i r' hi' => ?_⟩
    rw [hsp] at hi'
    cases hi'
    have oB : Off [dhd] HA (upd HA dhd (.dK (heldK (us ++ [j])))) := fun x o z nx => by rw [upd_ne (fun q => nx (by simp [q]))]; exact z
    have hdB : upd HA dhd (.dK (heldK (us ++ [j]))) dhd = some (.dK (heldK (us ++ [j]))) := upd_same
    have freeB : ∀ x, upd HA dhd (.dK (heldK (us ++ [j]))) x = none → H x = none := fun x z => by
      by_cases q : x = dhd
      · rw [q, upd_same] at z; cases z
      · rw [upd_ne q] at z; exact freeA x z
    generalize upd HA dhd (.dK (heldK (us ++ [j]))) = HB at *
    have hwB : HB wb = some (.ins CW dw (webF hl b ml bo (e + 1))) := oB _ _ hwA (by simp [Ne.symm nw_d])
    have two : ∀ {x o}, H x = some o → x ≠ wb → x ≠ dhd → HB x = some o := fun z n n2 => oB _ _ (one z n) (by simp [n2])
    refine ⟨_, rfl, _, rfl, _, rfl, _, rfl, wb, CW, dw, _, .int (e + 1), rfl, hwB, TW.cl, TW.na _ (by decide), rfl, fun x dx nx ndx ne => ⟨x, dx, j, e + 1, wh, out, pa, rfl, upd_same, fun d HC nd oC hxC hdC => ⟨rfl, ?_⟩⟩⟩
    have oBC : ∀ y o, HB y = some o → HC y = some o := fun y o z => oC y o (by rw [upd_ne (ne_of_none z nx), upd_ne (ne_of_none z ndx)]; exact z) (by simp [ne_of_none z nx])
    have ndB : HB d = none := by
      have nxd : d ≠ x := fun q => by rw [q, upd_same] at nd; cases nd
      rw [upd_ne nxd] at nd
      by_cases q : d = dx
      · rw [q, upd_same] at nd; cases nd
      · rw [upd_ne q] at nd; exact nd
    have hhC : HC hm = some (.ins CH dh (homeF nm nu sg wt st nw qu)) := oBC _ _ (two hh nw_h nd_h)
    have hstC : HC st = some (.dK kvs) := oBC _ _ (two hst nw_s (Ne.symm nds))
    refine ⟨_, rfl, hs, rfl, ⟨_, SqL.of (oBC _ _ (two hhs nw_l nd_l))⟩, for_list (K := K) (a := hs) (xs := []) (fun i σ H' => σ = [some (.ref wb), some (.ref hm), some wh, some out, some pa, some (.ref hs), some (.ref x), none] ∧ H' = HC) ⟨rfl, rfl⟩ (fun i σ H' _ q => by rw [q.2]; exact SqL.of (oBC _ _ (two hhs nw_l nd_l))) (fun i y σ H' hy => by simp at hy) ?_⟩
    rintro σ H' ⟨rfl, rfl⟩
    refine ⟨_, rfl, _, rfl, hm, CH, dh, _, .ref st, rfl, hhC, TH.cl, TH.na _ (by decide), rfl, _, rfl, x, CS, dx, _, .int j, rfl, hxC, TS.cl, TS.na _ (by decide), rfl, st, _, rfl, DPut.k (k := Sum.inl j) hstC (small1000 (by omega)), _, rfl, ?_⟩
    have nst : x ≠ st := fun q => by rw [q] at nx; rw [two hst nw_s (Ne.symm nds)] at nx; cases nx
    have ndst : d ≠ st := fun q => by rw [q] at ndB; rw [two hst nw_s (Ne.symm nds)] at ndB; cases ndB
    refine kk x d dx _ (freeB x nx) (freeB d ndB) (fun y o z ny => ?_) ?_ ?_ upd_same ?_ ?_
    · have n1 : y ≠ wb := fun q => ny (by simp [q])
      have n2 : y ≠ dhd := fun q => ny (by simp [q])
      have n3 : y ≠ st := fun q => ny (by simp [q])
      rw [upd_ne n3]
      exact oBC _ _ (two z n1 n2)
    · rw [upd_ne (Ne.symm nw_s)]
      exact oBC _ _ hwB
    · rw [upd_ne nds]
      exact oBC _ _ hdB
    · rw [upd_ne nst]
      exact hxC
    · rw [upd_ne ndst]
      exact hdC
end
end K

namespace K
open PySem PySem.Spec PyProof.Rows L2
abbrev sHouseI : Stmt := inClass (top 31) 0
def spHouseI (CH CN : Addr) : Sp := fun vs H Q _ => ∃ (x dx : Addr) (nm lo hi : Int) (n : Nat), vs = [.ref x, .int nm, .int lo, .int hi, .int (n : Nat)] ∧ H x = some (.ins CH dx []) ∧ goodR lo hi ∧ n ≤ 8 ∧
  ∀ (a : HomeA) (H' : Hp), a.x = x → a.dx = dx → Off [x] H H' → (∀ y ∈ a.ds ++ a.ls, H y = none) → a.ds.Nodup → HomeAt H' CH CN a nm lo hi n [] [] → Q .non H'
theorem rep_nons (n : Nat) : (List.replicate n [V.non]).flatten = List.replicate n .non := by
  induction n with
  | zero => rfl
  | succ n ih => rw [List.replicate_succ, List.replicate_succ, List.flatten_cons, ih]; rfl
section
variable {P : Program} {w : World} {K : PySem.W.Frag} {mg : Str → Option Value} {base : Heap}
theorem scHouseI : FnScope ["self", "name", "low", "high", "many"] ["self", "name", "low", "high", "many"] (defScope sHouseI) := ⟨rfl, rfl, rfl, by decide +kernel, rfl, by decide +kernel, by decide +kernel⟩
theorem ok_houseI {f CH fH CN fN : Addr} {fd fdN : FuncData} {k : Nat} (F : Fun K "__init__" "House.__init__" sHouseI f fd) (TH : ClsT K mg "House" CH fH homeFs) (TN : NumT K mg CN fN) (GN : FnOk P w K mg base CX0 k fN fdN ["self", "low", "high"] (spNumI CN)) (bN : Binds K fdN ["self", "low", "high"] []) :
    FnOk P w K mg base CX0 (k + 2) f fd ["self", "name", "low", "high", "many"] (spHouseI CH CN) := by
  refine F.ok scHouseI (fun vs H Q E h => ?_) (fun cdv A outer s H vs Q E hr h => ?_)
  · obtain ⟨x, dx, nm, lo, hi, n, rfl, _⟩ := h
    rfl
  · obtain ⟨x, dx, nm, lo, hi, n, rfl, hx, hg, hn, kk⟩ := h
    refine ⟨_, pss_cons (ps_fld (pv 0) (pv 1) rfl) (pss_cons (ps_fld (pv 0) (pe_make TN.made GN hr (by rfl) TN.g bN .nil pass0 (pa_cons (pv 2) (pa_cons (pv 3) pa_nil))) rfl)
      (pss_cons (ps_fld (pv 0) (pe_lst pa_nil) rfl) (pss_cons (ps_fld (pv 0) (pe_op op_rep (pe_lst (pa_cons pe_non pa_nil)) (pv 4)) rfl) (pss_cons (ps_fld (pv 0) pe_dnewK rfl) (pss_cons (ps_fld (pv 0) pe_dnewK rfl) (pss_cons (ps_fld (pv 0) (pe_lst pa_nil) rfl) (pss_one (ps_fld (pv 0) pe_bl rfl)))))))), ?_⟩
    refine ⟨_, rfl, _, rfl, x, CH, dx, _, rfl, hx, TH.cl, TH.na _ (by decide), (by show 0 < 1000; decide), ?_⟩
    have o1 : Off [x] H (upd H x (.ins CH dx [("name", .int nm)])) := Off.put (fun b u e _ => e)
    have x1 : upd H x (.ins CH dx [("name", .int nm)]) x = some (.ins CH dx [("name", .int nm)]) := upd_same
    show tSeq _ _ _ _ (upd H x (.ins CH dx [("name", .int nm)]))
    generalize upd H x (.ins CH dx [("name", .int nm)]) = H1 at *
    refine ⟨_, rfl, _, rfl, fun nu dn nnu ndn ndd => ⟨nu, dn, lo, hi, rfl, upd_same, hg, fun d H2 nd k2 hN2 => ⟨rfl, ?_⟩⟩⟩
    have k12 : Same H1 H2 := fun b o e => k2 b o (by rw [upd_ne (ne_of_none e nnu), upd_ne (ne_of_none e ndn)]; exact e) (ne_of_none e nnu)
    have nd1 : H1 d = none := by
      have q1 : d ≠ nu := fun q => by rw [q, upd_same] at nd; cases nd
      rw [upd_ne q1] at nd
      by_cases q : d = dn
      · rw [q, upd_same] at nd; cases nd
      · rw [upd_ne q] at nd; exact nd
    have x2 := k12 _ _ x1
    have o2 : Off [x] H H2 := fun b u e nb => k12 _ _ (o1 b u e nb)
    have f2 : H d = none ∧ d ≠ x := o1.fresh x1 nd1
    refine ⟨_, rfl, x, CH, dx, _, rfl, x2, TH.cl, TH.na _ (by decide), (by show 1 < 1000; decide), ?_⟩
    have q_nu : nu ≠ x := (o1.fresh x1 nnu).2
    have q_d : d ≠ x := f2.2
    have n1 := hN2.1
    have n2 := hN2.2
    show tSeq _ _ _ _ (upd H2 x (.ins CH dx [("name", .int nm), ("numbers", .ref nu)]))
    have x3 : upd H2 x (.ins CH dx [("name", .int nm), ("numbers", .ref nu)]) x = some (.ins CH dx [("name", .int nm), ("numbers", .ref nu)]) := upd_same
    have o3 : Off [x] H (upd H2 x (.ins CH dx [("name", .int nm), ("numbers", .ref nu)])) := o2.put
    have n1 := (upd_ne (H := H2) (o := .ins CH dx [("name", .int nm), ("numbers", .ref nu)]) q_nu).trans n1
    have n2 := (upd_ne (H := H2) (o := .ins CH dx [("name", .int nm), ("numbers", .ref nu)]) q_d).trans n2
    generalize upd H2 x (.ins CH dx [("name", .int nm), ("numbers", .ref nu)]) = H3 at *
    refine ⟨(by show 0 ≤ sizeLine; decide), fun sg n_sg => ⟨_, rfl, x, CH, dx, _, rfl, (by rw [upd_ne (ne_of_none x3 n_sg)]; exact x3), TH.cl, TH.na _ (by decide), (by show 2 < 1000; decide), ?_⟩⟩
    have q_sg := o3.fresh x3 n_sg
    show tSeq _ _ _ _ (upd (upd H3 sg (.lst [])) x (.ins CH dx [("name", .int nm), ("numbers", .ref nu), ("sight", .ref sg)]))
    have x4 : upd (upd H3 sg (.lst [])) x (.ins CH dx [("name", .int nm), ("numbers", .ref nu), ("sight", .ref sg)]) x = some (.ins CH dx [("name", .int nm), ("numbers", .ref nu), ("sight", .ref sg)]) := upd_same
    have o4 : Off [x] H (upd (upd H3 sg (.lst [])) x (.ins CH dx [("name", .int nm), ("numbers", .ref nu), ("sight", .ref sg)])) := (o3.new n_sg).put
    have ne_n1_sg := ne_of_none n1 n_sg
    have n1 := (upd_ne (H := upd H3 sg (.lst [])) (o := .ins CH dx [("name", .int nm), ("numbers", .ref nu), ("sight", .ref sg)]) q_nu).trans ((upd_ne (o := (.lst [])) ne_n1_sg).trans n1)
    have ne_n2_sg := ne_of_none n2 n_sg
    have n2 := (upd_ne (H := upd H3 sg (.lst [])) (o := .ins CH dx [("name", .int nm), ("numbers", .ref nu), ("sight", .ref sg)]) q_d).trans ((upd_ne (o := (.lst [])) ne_n2_sg).trans n2)
    have n3 : upd (upd H3 sg (.lst [])) x (.ins CH dx [("name", .int nm), ("numbers", .ref nu), ("sight", .ref sg)]) sg = some (.lst []) := by rw [upd_ne q_sg.2]; exact upd_same
    generalize upd (upd H3 sg (.lst [])) x (.ins CH dx [("name", .int nm), ("numbers", .ref nu), ("sight", .ref sg)]) = H4 at *
    refine ⟨(by show 1 ≤ sizeLine; decide), fun l nl => ?_⟩
    refine ⟨_, rfl, l, n, _, rfl, rfl, upd_same, by omega, by omega, ?_, fun wt n_wt => ?_⟩
    · rw [Int.toNat_natCast]
      exact Nat.le_of_lt (small1000 (by show 1 * n ≤ 1000; omega))
    rw [Int.toNat_natCast, rep_nons]
    have ol := o4.new (o := .lst [.non]) nl
    have xl : upd H4 l (.lst [.non]) x = some (.ins CH dx [("name", .int nm), ("numbers", .ref nu), ("sight", .ref sg)]) := by rw [upd_ne (ne_of_none x4 nl)]; exact x4
    have n1 := (upd_ne (o := .lst [.non]) (ne_of_none n1 nl)).trans n1
    have n2 := (upd_ne (o := .lst [.non]) (ne_of_none n2 nl)).trans n2
    have n3 := (upd_ne (o := .lst [.non]) (ne_of_none n3 nl)).trans n3
    generalize upd H4 l (.lst [.non]) = Hl at *
    refine ⟨_, rfl, x, CH, dx, _, rfl, (by rw [upd_ne (ne_of_none xl n_wt)]; exact xl), TH.cl, TH.na _ (by decide), (by show 3 < 1000; decide), ?_⟩
    have q_wt := ol.fresh xl n_wt
    show tSeq _ _ _ _ (upd (upd Hl wt (.lst (List.replicate n .non))) x (.ins CH dx [("name", .int nm), ("numbers", .ref nu), ("sight", .ref sg), ("wants", .ref wt)]))
    have x5 : upd (upd Hl wt (.lst (List.replicate n .non))) x (.ins CH dx [("name", .int nm), ("numbers", .ref nu), ("sight", .ref sg), ("wants", .ref wt)]) x = some (.ins CH dx [("name", .int nm), ("numbers", .ref nu), ("sight", .ref sg), ("wants", .ref wt)]) := upd_same
    have o5 : Off [x] H (upd (upd Hl wt (.lst (List.replicate n .non))) x (.ins CH dx [("name", .int nm), ("numbers", .ref nu), ("sight", .ref sg), ("wants", .ref wt)])) := (ol.new n_wt).put
    have ne_n1_wt := ne_of_none n1 n_wt
    have n1 := (upd_ne (H := upd Hl wt (.lst (List.replicate n .non))) (o := .ins CH dx [("name", .int nm), ("numbers", .ref nu), ("sight", .ref sg), ("wants", .ref wt)]) q_nu).trans ((upd_ne (o := (.lst (List.replicate n .non))) ne_n1_wt).trans n1)
    have ne_n2_wt := ne_of_none n2 n_wt
    have n2 := (upd_ne (H := upd Hl wt (.lst (List.replicate n .non))) (o := .ins CH dx [("name", .int nm), ("numbers", .ref nu), ("sight", .ref sg), ("wants", .ref wt)]) q_d).trans ((upd_ne (o := (.lst (List.replicate n .non))) ne_n2_wt).trans n2)
    have ne_n3_wt := ne_of_none n3 n_wt
    have n3 := (upd_ne (H := upd Hl wt (.lst (List.replicate n .non))) (o := .ins CH dx [("name", .int nm), ("numbers", .ref nu), ("sight", .ref sg), ("wants", .ref wt)]) q_sg.2).trans ((upd_ne (o := (.lst (List.replicate n .non))) ne_n3_wt).trans n3)
    have n4 : upd (upd Hl wt (.lst (List.replicate n .non))) x (.ins CH dx [("name", .int nm), ("numbers", .ref nu), ("sight", .ref sg), ("wants", .ref wt)]) wt = some (.lst (List.replicate n .non)) := by rw [upd_ne q_wt.2]; exact upd_same
    generalize upd (upd Hl wt (.lst (List.replicate n .non))) x (.ins CH dx [("name", .int nm), ("numbers", .ref nu), ("sight", .ref sg), ("wants", .ref wt)]) = H5 at *
    refine fun st n_st => ⟨_, rfl, x, CH, dx, _, rfl, (by rw [upd_ne (ne_of_none x5 n_st)]; exact x5), TH.cl, TH.na _ (by decide), (by show 4 < 1000; decide), ?_⟩
    have q_st := o5.fresh x5 n_st
    show tSeq _ _ _ _ (upd (upd H5 st (.dK [])) x (.ins CH dx [("name", .int nm), ("numbers", .ref nu), ("sight", .ref sg), ("wants", .ref wt), ("stands", .ref st)]))
    have x6 : upd (upd H5 st (.dK [])) x (.ins CH dx [("name", .int nm), ("numbers", .ref nu), ("sight", .ref sg), ("wants", .ref wt), ("stands", .ref st)]) x = some (.ins CH dx [("name", .int nm), ("numbers", .ref nu), ("sight", .ref sg), ("wants", .ref wt), ("stands", .ref st)]) := upd_same
    have o6 : Off [x] H (upd (upd H5 st (.dK [])) x (.ins CH dx [("name", .int nm), ("numbers", .ref nu), ("sight", .ref sg), ("wants", .ref wt), ("stands", .ref st)])) := (o5.new n_st).put
    have ne_n1_st := ne_of_none n1 n_st
    have n1 := (upd_ne (H := upd H5 st (.dK [])) (o := .ins CH dx [("name", .int nm), ("numbers", .ref nu), ("sight", .ref sg), ("wants", .ref wt), ("stands", .ref st)]) q_nu).trans ((upd_ne (o := (.dK [])) ne_n1_st).trans n1)
    have ne_n2_st := ne_of_none n2 n_st
    have n2 := (upd_ne (H := upd H5 st (.dK [])) (o := .ins CH dx [("name", .int nm), ("numbers", .ref nu), ("sight", .ref sg), ("wants", .ref wt), ("stands", .ref st)]) q_d).trans ((upd_ne (o := (.dK [])) ne_n2_st).trans n2)
    have ne_n3_st := ne_of_none n3 n_st
    have n3 := (upd_ne (H := upd H5 st (.dK [])) (o := .ins CH dx [("name", .int nm), ("numbers", .ref nu), ("sight", .ref sg), ("wants", .ref wt), ("stands", .ref st)]) q_sg.2).trans ((upd_ne (o := (.dK [])) ne_n3_st).trans n3)
    have ne_n4_st := ne_of_none n4 n_st
    have n4 := (upd_ne (H := upd H5 st (.dK [])) (o := .ins CH dx [("name", .int nm), ("numbers", .ref nu), ("sight", .ref sg), ("wants", .ref wt), ("stands", .ref st)]) q_wt.2).trans ((upd_ne (o := (.dK [])) ne_n4_st).trans n4)
    have n5 : upd (upd H5 st (.dK [])) x (.ins CH dx [("name", .int nm), ("numbers", .ref nu), ("sight", .ref sg), ("wants", .ref wt), ("stands", .ref st)]) st = some (.dK []) := by rw [upd_ne q_st.2]; exact upd_same
    generalize upd (upd H5 st (.dK [])) x (.ins CH dx [("name", .int nm), ("numbers", .ref nu), ("sight", .ref sg), ("wants", .ref wt), ("stands", .ref st)]) = H6 at *
    refine fun nw n_nw => ⟨_, rfl, x, CH, dx, _, rfl, (by rw [upd_ne (ne_of_none x6 n_nw)]; exact x6), TH.cl, TH.na _ (by decide), (by show 5 < 1000; decide), ?_⟩
    have q_nw := o6.fresh x6 n_nw
    show tSeq _ _ _ _ (upd (upd H6 nw (.dK [])) x (.ins CH dx [("name", .int nm), ("numbers", .ref nu), ("sight", .ref sg), ("wants", .ref wt), ("stands", .ref st), ("news", .ref nw)]))
    have x7 : upd (upd H6 nw (.dK [])) x (.ins CH dx [("name", .int nm), ("numbers", .ref nu), ("sight", .ref sg), ("wants", .ref wt), ("stands", .ref st), ("news", .ref nw)]) x = some (.ins CH dx [("name", .int nm), ("numbers", .ref nu), ("sight", .ref sg), ("wants", .ref wt), ("stands", .ref st), ("news", .ref nw)]) := upd_same
    have o7 : Off [x] H (upd (upd H6 nw (.dK [])) x (.ins CH dx [("name", .int nm), ("numbers", .ref nu), ("sight", .ref sg), ("wants", .ref wt), ("stands", .ref st), ("news", .ref nw)])) := (o6.new n_nw).put
    have ne_n1_nw := ne_of_none n1 n_nw
    have n1 := (upd_ne (H := upd H6 nw (.dK [])) (o := .ins CH dx [("name", .int nm), ("numbers", .ref nu), ("sight", .ref sg), ("wants", .ref wt), ("stands", .ref st), ("news", .ref nw)]) q_nu).trans ((upd_ne (o := (.dK [])) ne_n1_nw).trans n1)
    have ne_n2_nw := ne_of_none n2 n_nw
    have n2 := (upd_ne (H := upd H6 nw (.dK [])) (o := .ins CH dx [("name", .int nm), ("numbers", .ref nu), ("sight", .ref sg), ("wants", .ref wt), ("stands", .ref st), ("news", .ref nw)]) q_d).trans ((upd_ne (o := (.dK [])) ne_n2_nw).trans n2)
    have ne_n3_nw := ne_of_none n3 n_nw
    have n3 := (upd_ne (H := upd H6 nw (.dK [])) (o := .ins CH dx [("name", .int nm), ("numbers", .ref nu), ("sight", .ref sg), ("wants", .ref wt), ("stands", .ref st), ("news", .ref nw)]) q_sg.2).trans ((upd_ne (o := (.dK [])) ne_n3_nw).trans n3)
    have ne_n4_nw := ne_of_none n4 n_nw
    have n4 := (upd_ne (H := upd H6 nw (.dK [])) (o := .ins CH dx [("name", .int nm), ("numbers", .ref nu), ("sight", .ref sg), ("wants", .ref wt), ("stands", .ref st), ("news", .ref nw)]) q_wt.2).trans ((upd_ne (o := (.dK [])) ne_n4_nw).trans n4)
    have ne_n5_nw := ne_of_none n5 n_nw
    have n5 := (upd_ne (H := upd H6 nw (.dK [])) (o := .ins CH dx [("name", .int nm), ("numbers", .ref nu), ("sight", .ref sg), ("wants", .ref wt), ("stands", .ref st), ("news", .ref nw)]) q_st.2).trans ((upd_ne (o := (.dK [])) ne_n5_nw).trans n5)
    have n6 : upd (upd H6 nw (.dK [])) x (.ins CH dx [("name", .int nm), ("numbers", .ref nu), ("sight", .ref sg), ("wants", .ref wt), ("stands", .ref st), ("news", .ref nw)]) nw = some (.dK []) := by rw [upd_ne q_nw.2]; exact upd_same
    generalize upd (upd H6 nw (.dK [])) x (.ins CH dx [("name", .int nm), ("numbers", .ref nu), ("sight", .ref sg), ("wants", .ref wt), ("stands", .ref st), ("news", .ref nw)]) = H7 at *
    refine ⟨(by show 0 ≤ sizeLine; decide), fun qu n_qu => ⟨_, rfl, x, CH, dx, _, rfl, (by rw [upd_ne (ne_of_none x7 n_qu)]; exact x7), TH.cl, TH.na _ (by decide), (by show 6 < 1000; decide), ?_⟩⟩
    have q_qu := o7.fresh x7 n_qu
    show tSeq _ _ _ _ (upd (upd H7 qu (.lst [])) x (.ins CH dx [("name", .int nm), ("numbers", .ref nu), ("sight", .ref sg), ("wants", .ref wt), ("stands", .ref st), ("news", .ref nw), ("queue", .ref qu)]))
    have x8 : upd (upd H7 qu (.lst [])) x (.ins CH dx [("name", .int nm), ("numbers", .ref nu), ("sight", .ref sg), ("wants", .ref wt), ("stands", .ref st), ("news", .ref nw), ("queue", .ref qu)]) x = some (.ins CH dx [("name", .int nm), ("numbers", .ref nu), ("sight", .ref sg), ("wants", .ref wt), ("stands", .ref st), ("news", .ref nw), ("queue", .ref qu)]) := upd_same
    have o8 : Off [x] H (upd (upd H7 qu (.lst [])) x (.ins CH dx [("name", .int nm), ("numbers", .ref nu), ("sight", .ref sg), ("wants", .ref wt), ("stands", .ref st), ("news", .ref nw), ("queue", .ref qu)])) := (o7.new n_qu).put
    have ne_n1_qu := ne_of_none n1 n_qu
    have n1 := (upd_ne (H := upd H7 qu (.lst [])) (o := .ins CH dx [("name", .int nm), ("numbers", .ref nu), ("sight", .ref sg), ("wants", .ref wt), ("stands", .ref st), ("news", .ref nw), ("queue", .ref qu)]) q_nu).trans ((upd_ne (o := (.lst [])) ne_n1_qu).trans n1)
    have ne_n2_qu := ne_of_none n2 n_qu
    have n2 := (upd_ne (H := upd H7 qu (.lst [])) (o := .ins CH dx [("name", .int nm), ("numbers", .ref nu), ("sight", .ref sg), ("wants", .ref wt), ("stands", .ref st), ("news", .ref nw), ("queue", .ref qu)]) q_d).trans ((upd_ne (o := (.lst [])) ne_n2_qu).trans n2)
    have ne_n3_qu := ne_of_none n3 n_qu
    have n3 := (upd_ne (H := upd H7 qu (.lst [])) (o := .ins CH dx [("name", .int nm), ("numbers", .ref nu), ("sight", .ref sg), ("wants", .ref wt), ("stands", .ref st), ("news", .ref nw), ("queue", .ref qu)]) q_sg.2).trans ((upd_ne (o := (.lst [])) ne_n3_qu).trans n3)
    have ne_n4_qu := ne_of_none n4 n_qu
    have n4 := (upd_ne (H := upd H7 qu (.lst [])) (o := .ins CH dx [("name", .int nm), ("numbers", .ref nu), ("sight", .ref sg), ("wants", .ref wt), ("stands", .ref st), ("news", .ref nw), ("queue", .ref qu)]) q_wt.2).trans ((upd_ne (o := (.lst [])) ne_n4_qu).trans n4)
    have ne_n5_qu := ne_of_none n5 n_qu
    have n5 := (upd_ne (H := upd H7 qu (.lst [])) (o := .ins CH dx [("name", .int nm), ("numbers", .ref nu), ("sight", .ref sg), ("wants", .ref wt), ("stands", .ref st), ("news", .ref nw), ("queue", .ref qu)]) q_st.2).trans ((upd_ne (o := (.lst [])) ne_n5_qu).trans n5)
    have ne_n6_qu := ne_of_none n6 n_qu
    have n6 := (upd_ne (H := upd H7 qu (.lst [])) (o := .ins CH dx [("name", .int nm), ("numbers", .ref nu), ("sight", .ref sg), ("wants", .ref wt), ("stands", .ref st), ("news", .ref nw), ("queue", .ref qu)]) q_nw.2).trans ((upd_ne (o := (.lst [])) ne_n6_qu).trans n6)
    have n7 : upd (upd H7 qu (.lst [])) x (.ins CH dx [("name", .int nm), ("numbers", .ref nu), ("sight", .ref sg), ("wants", .ref wt), ("stands", .ref st), ("news", .ref nw), ("queue", .ref qu)]) qu = some (.lst []) := by rw [upd_ne q_qu.2]; exact upd_same
    generalize upd (upd H7 qu (.lst [])) x (.ins CH dx [("name", .int nm), ("numbers", .ref nu), ("sight", .ref sg), ("wants", .ref wt), ("stands", .ref st), ("news", .ref nw), ("queue", .ref qu)]) = H8 at *
    refine ⟨_, rfl, x, CH, dx, _, rfl, x8, TH.cl, TH.na _ (by decide), (by show 7 < 1000; decide), ?_⟩
    show Q .non (upd H8 x (.ins CH dx (homeF nm nu sg wt st nw qu)))
    refine kk ⟨x, dx, nu, dn, d, sg, wt, st, nw, qu⟩ _ rfl rfl o8.put (fun y hy => ?_) ?_ ⟨upd_same, ⟨?_, ?_⟩, ?_, ?_, ?_, ?_, ?_⟩
    · simp only [HomeA.ds, HomeA.ls, List.mem_append, List.mem_cons, List.not_mem_nil, or_false] at hy
      rcases hy with (rfl | rfl | rfl) | (rfl | rfl | rfl)
      · exact f2.1
      · exact q_st.1
      · exact q_nw.1
      · exact q_sg.1
      · exact q_wt.1
      · exact q_qu.1
    · simp only [HomeA.ds, List.nodup_cons, List.mem_cons, List.not_mem_nil, or_false, not_or, not_false_eq_true, List.nodup_nil, and_true]
      exact ⟨⟨ne_n2_st, ne_n2_nw⟩, ne_n5_nw⟩
    · exact (upd_ne q_nu).trans n1
    · exact (upd_ne q_d).trans n2
    · exact (upd_ne q_sg.2).trans n3
    · exact (upd_ne q_wt.2).trans n4
    · exact (upd_ne q_st.2).trans n5
    · exact (upd_ne q_nw.2).trans n6
    · exact (upd_ne q_qu.2).trans n7
end
end K


/-! a list comprehension whose element may let the exception of a call out -/
namespace SwX
open PySem PySem.Spec PyProof.Rows L2
/-- what the element of a block may let out -/
def Out (X : Cx) (E : XK) (B : Cx) (u : Value) (z : Shared) : Prop := ∃ pi τ G z0, Inv B pi τ G z0 ∧ CX X.prog X.w X.stack G z0 E u z
abbrev bx (X : Cx) (E : XK) (s : Shared) (H : Hp) (scope : Scope) (ce : Env) (fp : List Addr) : Cx := (X.blk s H scope ce fp).wish (Out X E (X.blk s H scope ce fp))
theorem pass_bx {X : Cx} {E : XK} {s : Shared} {H : Hp} {scope : Scope} {ce : Env} {fp : List Addr} : Passes (L2.CX X.prog X.w) (bx X E s H scope ce fp) E :=
  fun pi τ G z0 u z I c => ⟨pi, τ, G, z0, I.unwish, c⟩
theorem cx_more {P : Program} {w : World} {l : List Env} {G : Hp} {z0 z : Shared} {E E' : XK} {u : Value} {m : Str → Option Value} {C : Addr} (hC : G C = none) (hn : z0.heap.Ns C m) (nf : C ∉ frs l) (h : ∀ cls d G', E cls d G' → G' C = none → E' cls d G')
    (c : CX P w l G z0 E u z) : CX P w l G z0 E' u z ∧ z.heap.Ns C m := by
  obtain ⟨a, B, G', cls, d, eu, fl, hok, ub, na, os, ag, q⟩ := c
  obtain ⟨o, es, ep, ho, r⟩ := hn
  exact ⟨⟨a, B, G', cls, d, eu, fl, hok, ub, na, os, ag, h _ _ _ q (ub.free C o ho hC)⟩, o, es, ep, fl.1 C o (ub.keep C o ho hC nf), r⟩
section
variable {X : Cx}
/-- out of the block, in the frame's own hand -/
theorem out_of {W : WX} {E : XK} {pi : List (Addr × Obj)} {σ : L2.St} {G : Hp} {z0 z : Shared} {u : Value} {ce : Env} {m : Str → Option Value} (tk : Takes X W) (hs : X.stack = X.env :: X.outer) (hf : X.env.frame = some X.env.locals) (cf : ce.frame = X.env.frame)
    (hW : ∀ cls d σ H, E cls d H → W cls d σ H) (I : Inv X pi σ G z0) (nC : G ce.locals = none) (hn : z0.heap.Ns ce.locals m) (c1 : ce.locals ≠ X.env.locals) (c2 : ce.locals ∉ frs X.stack) (c3 : ce.locals ∈ X.ex ∨ X.s_0.heap.objs.size ≤ ce.locals)
    (c4 : ∀ x c, X.env.cells.lookup x = some c → c ≠ ce.locals) (c5 : ∀ p ∈ X.pn, p.1 ≠ ce.locals) (c : CX X.prog X.w X.stack G z0 E u z) : notedBy (model X.prog X.w) X.A ce (CompFails (model X.prog X.w) X.A X.xe ce) u z := by
  obtain ⟨cc, hnz⟩ := cx_more (E' := fun cls d G' => E cls d G' ∧ G' ce.locals = none) nC hn c2 (fun _ _ _ q1 q2 => ⟨q1, q2⟩) c
  obtain ⟨a, B, sI, pn2, τ, H, cls, d, eu, J, nb, up, sky, na, os, ag, ⟨hE, hC⟩⟩ := XE.of_call (W := fun cls d _ H => E cls d H ∧ H ce.locals = none) I (fun _ _ _ q => q) cc
  subst eu
  have J : Inv X [] τ H sI := J.unpinned (pins := []) (pl := pn2)
  have hfr : X.A.frames = some (X.env :: X.outer) := by rw [J.ok.frames, hs]
  rw [hs] at sky
  have onward : ∀ h1, HandSPX.HeldZ B (X.env :: X.outer) a (Zc cls d) X.env.locals h1 → z.heap.UpToSlots h1 → CompFails (model X.prog X.w) X.A X.xe ce (.ref a) { z with heap := h1 } := by
    intro h1 hh u1
    have n1 : h1.Ns ce.locals m := hnz.upToSlots u1
    refine ⟨m, n1, fun h2 m2 n2 sb => ?_⟩
    obtain ⟨g1, g2, g3, oe, vs, T, oT, ts, e1, e2, e3, e4, e5, e6, e7, e8, e9⟩ := hh
    obtain ⟨oC, es, ep, hoC, hdC, _⟩ := n1
    have noC : ∀ {b : Addr} {o : Obj} {vs : Array Value}, h1.get? b = some o → o.data = .fields vs → b ≠ ce.locals := fun {b o vs} p q r => by
      rw [r, hoC] at p
      cases p
      rw [hdC] at q
      cases q
    have hid : ∀ {h : Heap} {b : Addr}, h.get? b = none → (PySem.W.hideAll h [ce.locals]).get? b = none := fun {h b} p => by
      cases q : (PySem.W.hideAll h [ce.locals]).get? b with
      | none => rfl
      | some o => rw [PySem.W.of_hideAll _ q] at p; cases p
    have hidC : ∀ {h : Heap} {b : Addr} {o : Obj}, (PySem.W.hideAll h [ce.locals]).get? b = some o → b ≠ ce.locals := fun {h b o} p q => by
      rw [q, PySem.W.hideAll_none _ (by simp)] at p
      cases p
    have st2 : (PySem.W.hideAll B [ce.locals]).StaysIn h2 := fun b o p => (sb.2 b (hidC p)).trans (g1 b o (PySem.W.of_hideAll _ p))
    have ff2 : h2.FunFrames (PySem.W.hideAll B [ce.locals]) (X.env :: X.outer) := funFrames_none (Heap.FunFrames.sameBut sb n2 g3) fun b hb => hid (g3.mem hb).1
    have e1' := (sb.2 a (noC e1 e3)).trans e1
    have e7' := (sb.2 T (noC e7 e8)).trans e7
    have tr2 : HandSPX.TracedZ h2 (PySem.W.hideAll B [ce.locals]) a (Zc cls d) (rawInt X.env.locals) := ⟨oe, vs, T, oT, ts, e1', e2, e3, e4, hid e5, e6, e7', e8, e9⟩
    have hd2 : HandSPX.HeldZ (PySem.W.hideAll B [ce.locals]) (X.env :: X.outer) a (Zc cls d) X.env.locals h2 := ⟨st2, hid g2, ff2, tr2⟩
    unfold PySem.passOn
    refine wpAny_bind (wpAny_field e1' e3 e4 ?_)
    rw [if_neg (by simp), cf, hf]
    refine wpAny_bind (HandSPX.setFlight_onZ hd2 fun h3 hd3 u3 => wpAny_throw ?_)
    refine tk _ _ ⟨a, PySem.W.hideAll B [ce.locals], { sI with heap := PySem.W.hideAll sI.heap [ce.locals] }, [], τ, H, cls, d, rfl, ?_, ?_, ?_, ?_, na, os, ag, hW _ _ _ _ hE⟩
    · exact J.turned (t' := sI.toks) (fun b o hb e => PySem.W.hideAll_get _ e (by simp [hb])) hC c1 c3 c4 (fun p hp => c5 p (by simpa using hp))
    · intro b o e hb
      exact PySem.W.hideAll_get _ (nb b o (PySem.W.of_hideAll _ e) hb) (by simp [hidC e])
    · intro b o e hnf
      obtain ⟨s1, k1⟩ := up b o (PySem.W.of_hideAll _ e) hnf
      obtain ⟨s2, k2⟩ := u1 b _ k1 hnf
      obtain ⟨s3, k3⟩ := u3 b _ ((sb.2 b (hidC e)).trans k2) hnf
      exact ⟨s3, k3⟩
    · rw [hs]
      exact .inr (.inr hd3)
  show wpAny _ _ (noteFrame (.ref a) ce) _ _ z
  rw [noteFrame_env _ cf]
  rcases sky with ⟨hB, hn0, hl, oe, vs, he, hz, hd, h1⟩ | fl | hh
  · exact HandSPX.look_newZ Zc.steady hfr hl hf he hB hn0 hd h1 hz onward
  · exact HandSPX.looks_onZ Zc.steady hfr hf fl onward
  · exact HandSPX.againZ hf hh.2.2.2 (onward z.heap hh (Heap.UpToSlots.refl _))
theorem more {α : Type} {t : Sem α} {Q Q' : α → Shared → Prop} {M : Model} {A : Around} {E E' : Value → Shared → Prop} {s : Shared} (h : wpAny M A t Q E s) (hQ : ∀ a s, Q a s → Q' a s) (hE : ∀ a s, E a s → E' a s) : wpAny M A t Q' E' s := wpAny_mono h hQ hE
/-- [elt for tg in iter if ifs] as a value, its element a call's exception may leave -/
theorem pe_lcX {elt tg iter : Expr} {ifs : List Expr} {scope : Scope} {own : List (Str × Nat)} {pos : Pos} {wi : TI} {g : TG} {tt : TT} {te : TE} {W : WX} {E : XK} (tk : Takes X W) (hW : ∀ cls d σ H, E cls d H → W cls d σ H) (hst : X.stack = X.env :: X.outer) (hf : X.env.frame = some X.env.locals)
    (hc : X.calm = true) (hN : X.N.Nodup) (hi : PI X tg iter wi) (ok : BlkOk X.N X.env.scope scope own)
    (hg : ∀ (s : Shared) (H : Hp) (C : Addr) (cl : List (Str × Addr)) (fp : List Addr), PG (bx X E s H scope (compEnvC scope cl C X.env) fp) tg g)
    (ht : ∀ (s : Shared) (H : Hp) (C : Addr) (cl : List (Str × Addr)) (fp : List Addr), PTs (bx X E s H scope (compEnvC scope cl C X.env) fp) ifs tt)
    (he : ∀ (s : Shared) (H : Hp) (C : Addr) (cl : List (Str × Addr)) (fp : List Addr), PE (bx X E s H scope (compEnvC scope cl C X.env) fp) elt te) (hs : ∀ x, foldedSetIterable iter X.env x = pure x := by intro _; rfl) :
    PE X (.ListComp elt [⟨tg, iter, ifs, 0⟩] scope pos) (tLc wi g tt te (own.map (·.2))) := by
  refine ⟨fun pins s σ H Q I h => ?_⟩
  rw [eval_ListComp]
  have cells : ∀ y ∈ scope.names, y.2 = .free → ∃ c, X.env.cells.lookup y.1 = some c := fun y hy e => (ok.free y hy e).elim (fun k => I.ok.has _ (.inl k)) (fun k => I.ok.has _ (.inr k))
  refine comprehension_at (use := none) rfl hs (closure_ok cells) ok.kind (fun y hy e => by rw [ok.uniq y hy, e]) (thn (hi.run pins s σ H _ I h) fun xv s1 hx => thn hx fun itv s2 hit => ?_)
  obtain ⟨it, fp, tn, J, H2, eit, I2, T, st2, f2, q⟩ := hit
  subst eit
  refine wpAny_newObj_type (newEnv_comp ?_) (by show 0 ≤ sizeLine; decide)
  generalize hD : s2.heap.objs.size = D
  obtain ⟨Wt, ⟨m0, w0⟩, turn⟩ := q D (I2.hok.fresh (Nat.le_of_eq hD))
  generalize es3 : ({ s2 with heap := s2.heap.push { cls := .type "list", data := .seq ([] : List Value).toArray } } : Shared) = s3
  have hp3 : s3.heap = s2.heap.push { cls := .type "list", data := .seq ([] : List Value).toArray } := by rw [← es3]
  have I3 : Inv X pins σ (upd H2 D (.lst [])) s3 := by
    rw [← es3]
    exact I2.laid (t' := s2.toks) (fun b o e => Heap.get?_push_of_some _ e) (Nat.le_of_eq hD) ⟨Nat.zero_le _, [], 0, .nil, by rw [← hD]; exact Heap.get?_push_size _ rfl⟩
  have small : ∀ b ∈ fp, b < s2.heap.objs.size := fun b hb => let ⟨o, e, _⟩ := T.obj _ _ st2 b hb; Heap.lt_size e
  have f3 : ∀ b ∈ fp, FpOk X pins (upd H2 D (.lst [])) b ∧ b < s3.heap.objs.size := fun b hb => by
    have lt := small b hb
    refine ⟨⟨?_, (f2 b hb).2⟩, by rw [hp3, Heap.size_push]; exact Nat.lt_succ_of_lt lt⟩
    rw [upd_ne (fun z => by rw [← hD] at z; exact absurd lt (by rw [z]; exact Nat.lt_irrefl _))]
    exact (f2 b hb).1
  have st3 : tn 0 s3.heap := T.keep _ _ _ st2 fun b _ o e => by rw [hp3]; exact Heap.get?_push_of_some _ e
  have I4 := block_start I3 ok hN f3
  have pg := hg s3 (upd H2 D (.lst [])) s3.heap.objs.size (cellsFrom (s3.heap.objs.size + 1) scope.names (cloFrom X.env.cells scope.names [])) fp
  have pt := ht s3 (upd H2 D (.lst [])) s3.heap.objs.size (cellsFrom (s3.heap.objs.size + 1) scope.names (cloFrom X.env.cells scope.names [])) fp
  have pe := he s3 (upd H2 D (.lst [])) s3.heap.objs.size (cellsFrom (s3.heap.objs.size + 1) scope.names (cloFrom X.env.cells scope.names [])) fp
  show codeAny _ _ (.compStart (.ListComp elt [⟨tg, iter, ifs, 0⟩] scope pos) 0 (.ref it) (.ref D) (compEnvC scope (cellsFrom (s3.heap.objs.size + 1) scope.names (cloFrom X.env.cells scope.names [])) s3.heap.objs.size X.env))
    (compEnds (model X.prog X.w) X.A X.xe none (EP X pins σ Q) (.ref D) (compEnvC scope (cellsFrom (s3.heap.objs.size + 1) scope.names (cloFrom X.env.cells scope.names [])) s3.heap.objs.size X.env)) { s3 with heap := pushCells (s3.heap.push { cls := .type "dict", data := .dict #[] }) scope.names }
  have nfp : ∀ b ∈ fp, (upd H2 D (.lst [])) b = none := fun b hb => (f3 b hb).1.1
  have cfr : (compEnvC scope (cellsFrom (s3.heap.objs.size + 1) scope.names (cloFrom X.env.cells scope.names [])) s3.heap.objs.size X.env).frame = X.env.frame := rfl
  have cL : (compEnvC scope (cellsFrom (s3.heap.objs.size + 1) scope.names (cloFrom X.env.cells scope.names [])) s3.heap.objs.size X.env).locals = s3.heap.objs.size := rfl
  generalize compEnvC scope (cellsFrom (s3.heap.objs.size + 1) scope.names (cloFrom X.env.cells scope.names [])) s3.heap.objs.size X.env = ce at I4 pg pt pe cfr cL ⊢
  generalize upd H2 D (.lst []) = H3 at I3 I4 pg pt pe w0 nfp f3
  generalize es4 : ({ s3 with heap := pushCells (s3.heap.push { cls := .type "dict", data := .dict #[] }) scope.names } : Shared) = s4 at I4 ⊢
  have st4 : tn 0 s4.heap := T.keep _ _ _ st3 fun b _ o e => by rw [← es4]; exact pushCells_keeps _ _ _ _ (Heap.get?_push_of_some _ e)
  have I4 : Inv (bx X E s3 H3 scope ce fp) [] (wipe σ (own.map (·.2))) H3 s4 := I4.wish _
  have stat : ∀ {τ : L2.St} {G : Hp} {z : Shared}, Inv (bx X E s3 H3 scope ce fp) [] τ G z → (∀ b ∈ fp, G b = none) → ∀ b ∈ fp, FpOk (bx X E s3 H3 scope ce fp) [] G b := fun {τ G z} K hn b hb =>
    ⟨hn b hb, (K.ok.exf b hb).1, K.ok.exfs b hb, .inl hb, fun x c e => (K.ok.exf b hb).2 x c e, fun p hp => absurd (show p ∈ ([] : List (Addr × Obj)) ++ [] from hp) (by simp)⟩
  have back : ∀ {pi : List (Addr × Obj)} {τ : L2.St} {G : Hp} {z : Shared}, Inv (X.blk s3 H3 scope ce fp) pi τ G z → Inv X pins σ G z := fun {pi τ G z} K =>
    I3.call' (ch := fp) K.os K.base K.hok K.bare fun b hb => ⟨(f3 b hb).1.2.2.2.1, (f3 b hb).1.2.1, (f3 b hb).1.2.2.2.2.1, (f3 b hb).1.2.2.2.2.2⟩
  have atC : ∀ {G : Hp}, G ce.locals = none → FpOk X pins G ce.locals := fun {G} n => I3.fpOk (by rw [cL]; exact Nat.le_refl _) n
  have nst : ce.locals ∉ frs X.stack := fun hm => by
    obtain ⟨_, o, ho, _⟩ := I3.stack.mem hm
    have := Heap.lt_size ho
    rw [cL] at this
    exact Nat.lt_irrefl _ this
  have flee : ∀ u z, (bx X E s3 H3 scope ce fp).xe u z → notedBy (model X.prog X.w) X.A ce (fun e z' => compEnds (model X.prog X.w) X.A X.xe none (EP X pins σ Q) (.ref D) ce (.error e) z') u z := by
    rintro u z ⟨pi, τ, G, z0, K, c⟩
    obtain ⟨m, hn, _⟩ := K.loc
    have nG : G ce.locals = none := K.free
    obtain ⟨_, b1, b2, b3, b4, b5⟩ := atC nG
    exact out_of tk hst hf cfr hW (back K) nG hn b1 nst b3 b4 (fun p hp => b5 p (List.mem_append_left _ hp)) c
  have loop : codeAny (model X.prog X.w) X.A (.compLoop (.ListComp elt [⟨tg, iter, ifs, 0⟩] scope pos) 0 (.ref it) (.ref D) ce) (compEnds (model X.prog X.w) X.A X.xe none (EP X pins σ Q) (.ref D) ce) s4 := by
    refine compLoop_any (fun n z => ∃ i G, Inv (bx X E s3 H3 scope ce fp) [] (wipe σ (own.map (·.2))) G z ∧ tn i z.heap ∧ (∀ b ∈ fp, G b = none) ∧ Wt i n G) ?_ m0 ⟨0, H3, I4, st4, nfp, w0⟩
    rintro n s5 ⟨i, H5, I5, st5, n5, w5⟩
    rcases turn i n H5 w5 with ⟨stop, qq⟩ | ⟨go, Nx, hNx, step⟩
    · refine thnF (T.done (bx X E s3 H3 scope ce fp) rfl rfl rfl hc i [] s5 _ H5 (fun _ _ => False) I5 (stat I5 n5) st5 stop) fun r s6 ⟨hr, I6⟩ => ?_
      subst hr
      have I6 := I6.unwish
      obtain ⟨m, hn, _⟩ := I6.loc
      obtain ⟨b0, b1, b2, b3, b4, b5⟩ := atC (G := H5) I6.free
      refine ⟨m, hn, fun h'' sb => ?_⟩
      exact ⟨.ref D, H5, (back I6).turned (t' := s6.toks) (fun b o hb e => (sb.2 b hb).trans e) b0 b1 b3 b4 b5, rfl, qq⟩
    · refine thnF (T.item (bx X E s3 H3 scope ce fp) rfl rfl rfl hc i [] s5 _ H5 (fun _ _ => False) I5 (stat I5 n5) st5 go) fun r s6 ⟨v, hr, h6⟩ => ?_
      subst hr
      refine thnF h6 fun _ s7 ⟨x, H7, I7, r7, y7, st7, n7⟩ => ?_
      refine more (pg.run _ s7 _ H7 x v _ (I7.pinned (stat I7 n7) (T.obj _ _ st7)) r7 (step x H7 y7)) (fun _ s8 ⟨σ8, H8, I8, hw8, q8⟩ => ?_) flee
      refine more (pt.run _ s8 σ8 H8 _ I8 q8) (fun b s9 ⟨H9, I9, q9⟩ => ?_) flee
      have fin : ∀ {z : Shared} {G : Hp}, Inv (bx X E s3 H3 scope ce fp) ([] ++ pinsAt fp s7.heap) σ8 G z → Nx G → ∃ m, m < n ∧ ∃ i G, Inv (bx X E s3 H3 scope ce fp) [] (wipe σ (own.map (·.2))) G z ∧ tn i z.heap ∧ (∀ b ∈ fp, G b = none) ∧ Wt i m G := fun {z G} K nx => by
        obtain ⟨m', lt, w'⟩ := hNx G nx
        have pin' : ∀ b ∈ fp, ∀ o, s7.heap.get? b = some o → z.heap.get? b = some o ∧ G b = none := fun b hb o e => by
          have q := K.pin (b, o) (List.mem_append_right _ (List.mem_append_right _ (mem_pinsAt hb e)))
          exact ⟨q.1, q.2.1⟩
        refine ⟨m', lt, i + 1, G, (K.unpinned (pins := [])).weak (by rw [← hw8, wipe_length]) (fun j v e => ?_), T.keep _ _ _ st7 fun b hb o e => (pin' b hb o e).1, fun b hb => ?_, w'⟩
        · rw [← hw8] at e
          exact (wipe_some e).1
        · obtain ⟨o, e, _⟩ := T.obj _ _ st7 b hb
          exact (pin' b hb o e).2
      cases b with
      | false => exact fin I9 q9
      | true => exact more (pe.run _ s9 σ8 H9 _ I9 q9) (fun y s10 ⟨yv, H10, I10, r10, acc, hD10, hz10, nx⟩ => app_ok (X := bx X E s3 H3 scope ce fp) I10 hD10 hz10 r10 fun s11 I11 => fin I11 nx) flee
  exact codeAny_compStart_list loop (T.self X.A 0 _ _ _ st4 loop)
end
end SwX

namespace K
open PySem PySem.Spec PyProof.Rows L2
abbrev sW_init : Stmt := inClass (top 35) 0
def spWebI (c : WebC) (CM : Addr) : Sp := fun vs H Q E => ∃ (x dx rl : Addr) (rs : List (Int × Int)), vs = [.ref x, .ref rl] ∧ H x = some (.ins c.W dx []) ∧ RangesAt H rl rs ∧ (∀ r ∈ rs, goodR r.1 r.2) ∧ rs.length ≤ 1000 ∧
  (rs.length = 0 ∨ 9 ≤ rs.length → TooMX CM 8 H E) ∧ (1 ≤ rs.length ∧ rs.length ≤ 8 → ∀ (a : WebA) (H' : Hp), a.x = x → Off [x] H H' → Fresh H' c a rs → H a.hl = none → (∀ h ∈ a.hs, ∀ y ∈ h.ls, H y = none) → Q .non H')
section
variable {P : Program} {w : World} {K : PySem.W.Frag} {mg : Str → Option Value} {base : Heap}
theorem scWebI : FnScope ["self", "ranges", "name", "low", "high", "home"] ["self", "ranges"] (defScope sW_init) := ⟨rfl, rfl, rfl, by decide +kernel, rfl, by decide +kernel, by decide +kernel⟩
theorem ok_webI {f fW fH fM fMS CM : Addr} {c : WebC} {fd fdH fdM fdMS : FuncData} {k : Nat} {tk : Tok} (F : Fun K "__init__" "Web.__init__" sW_init f fd) (T : BT mg) (TW : ClsT K mg "Web" c.W fW webFs) (TH : ClsT K mg "House" c.H fH homeFs) (g8 : mg "MOST_HOUSES" = some (.int 8 tk)) (hCW : c.W ≠ c.H ∧ c.W ≠ c.N ∧ c.W ≠ c.S)
    (M : ExcC P w K mg base (k + 2) "TooMany" CM fM fdM ["self", "bound"] (spIn1 K "bound" "toomany" askInt gotSame)) (fl : PySem.W.findIn K (.ref CM) "bound" = some none) (GH : FnOk P w K mg base CX0 (k + 2) fH fdH ["self", "name", "low", "high", "many"] (spHouseI c.H c.N)) (bH : Binds K fdH ["self", "name", "low", "high", "many"] [])
    (cmake_slip : Cal P w K mg base (k + 3) "make_slip" fMS fdMS ["web", "home", "what", "out", "path", "holders"] (spMakeSlip c.W c.H c.N c.S)) :
    FnOk P w K mg base (L2.CX P w) (k + 4) f fd ["self", "ranges"] (spWebI c CM) := by
  refine F.okX scWebI (fun vs H Q E h => ?_) (fun cdv A outer s H vs Q E hr h => ?_)
  · obtain ⟨x, dx, rl, rs, rfl, _⟩ := h
    rfl
  · obtain ⟨x, dx, rl, rs, rfl, hx, ⟨ts, hrl, hts⟩, hgs, hrn, hbad, kk⟩ := h
    have hr3 : Room (k + 3) _ := hr
    refine ⟨_, pss_cons (ps_if (pt_not (pt_chain op_le op_le pe_int (pe_callB call_len_seq (by rfl) T.len PySem.boot_len (pa_cons (pv 1) pa_nil)) (pe_glob (v := .int 8) (by rfl) g8 ⟨_, rfl⟩))) (pss_one (ps_raise rfl (takes_of rfl rfl rfl rfl) (pmk_oex M.t.oex M.t.iC M.t.tI M.ok hr3 M.b .nil pass0 (by rfl) M.t.g (pa_cons (pe_glob (v := .int 8) (by rfl) g8 ⟨_, rfl⟩) pa_nil)))) pss_nil)
      (PSs.nox (pss_cons (ps_fld (pv 0) (pe_lc (own := [("name", 2), ("low", 3), ("high", 4)]) (g := gTup K 2 (gCons (gName 2) (gCons (gTup K 2 (gCons (gName 3) (gCons (gName 4) gNil))) gNil))) (tt := tYes) rfl scWebI.nd (by exact (pi_enum (by rfl) T.enumerate (pa_cons (pv 1) pa_nil)))
        (blkOk_by (own := [("name", 2), ("low", 3), ("high", 4)]) (N := ["self", "ranges", "name", "low", "high", "home"]) (sc := defScope sW_init) (by decide +kernel)) (fun _ _ _ _ _ => by exact (pg_tup rfl (pgs_cons (pg_name (i := 2) scWebI.nd rfl (Or.inl rfl)) (pgs_cons (pg_tup rfl (pgs_cons (pg_name (i := 3) scWebI.nd rfl (Or.inl rfl)) (pgs_cons (pg_name (i := 4) scWebI.nd rfl (Or.inl rfl)) pgs_nil))) pgs_nil)))) (fun _ _ _ _ _ => by exact pts_nil)
        (fun _ _ _ _ _ => by exact (pe_make TH.made GH hr (by rfl) TH.g bH .nil pass0 (pa_cons (pv 2) (pa_cons (pv 3) (pa_cons (pv 4) (pa_cons (pe_callB (r := rLenK K) call_len_seq (by rfl) T.len PySem.boot_len (pa_cons (pv 1) pa_nil)) pa_nil))))))) rfl) (pss_cons (ps_fld (pv 0) pe_dnewK rfl) (pss_cons (ps_fld (pv 0) pe_dnewK rfl) (pss_cons (ps_fld (pv 0) pe_dnewK rfl) (pss_cons (ps_fld (pv 0) pe_int rfl)
      (pss_one (ps_for PassesOwn.never rfl (pi_list (pe_fld (pv 0) rfl)) (pg_name (i := 5) scWebI.nd rfl (Or.inl rfl)) (pss_one (ps_expr (pe_call cmake_slip.ok hr (by rfl) cmake_slip.g cmake_slip.kp cmake_slip.b .nil pass0
        (pa_cons (pv 0) (pa_cons (pv 5) (pa_cons (pe_tup (pa_cons pe_str (pa_cons (pe_fld (pv 5) rfl) pa_nil))) (pa_cons pe_non (pa_cons (pe_tup (pa_cons (pe_fld (pv 5) rfl) pa_nil)) (pa_cons (pe_lst pa_nil) pa_nil))))))))))))))))), ?_⟩
    have lts : ts.length = rs.length := paired_len hts
    refine ⟨_, rfl, rl, _, rfl, .inl (SqL.of hrl), _, _, rfl, rfl, _, rfl, ?_⟩
    rw [List.length_map, lts]
    have rz : (rs.length = 0 ∨ 9 ≤ rs.length) → tMkO CM (spIn1 K "bound" "toomany" askInt gotSame) [] (tCons (tC (.int 8)) tNil) (L2.start ["self", "ranges", "name", "low", "high", "home"] [V.ref x, V.ref rl]) H fun cls d H' => E cls d H' := fun hb => by
      have hX := hbad hb
      refine ⟨(by show 1 ≤ 1000; decide), fun a na => ?_⟩
      refine ⟨a, CM, _, rfl, ⟨8, rfl, by decide⟩, M.t.oex, M.t.word, fl, upd_same, fun dx2 v' H2 nd ne k2 ha2 hd2 hv => ⟨rfl, dx2, _, ha2, hd2, ?_, ?_⟩⟩
      · rw [upd_ne ne] at nd
        exact nd
      · have nd0 : H dx2 = none := by rw [upd_ne ne] at nd; exact nd
        have hv : v' = .int 8 := hv
        subst hv
        exact hX dx2 _ nd0 (raised_same na (fun b o e hb => k2 b o (by rw [upd_ne hb]; exact e) hb) nd0) upd_same
    by_cases c1 : ¬ 1 ≤ rs.length
    · refine ifF0 (decide_eq_false (fun z => c1 (by omega))) ?_
      exact ⟨_, rfl, iteT (rz (by omega))⟩
    have c1 : 1 ≤ rs.length := by omega
    refine ifT0 (decide_eq_true (by omega)) ⟨_, _, rfl, rfl, _, rfl, ?_⟩
    by_cases c8 : ¬ rs.length ≤ 8
    · refine ifT0 ?_ (rz (by omega))
      rw [decide_eq_false (fun z : (rs.length : Int) ≤ 8 => c8 (by omega))]
      rfl
    have c8 : rs.length ≤ 8 := by omega
    refine ifF0 (by rw [decide_eq_true (show (rs.length : Int) ≤ 8 by omega)]; rfl) ?_
    have kk := kk ⟨c1, c8⟩
    refine ⟨_, rfl, rl, _, rfl, SqL.of hrl, fun D nD => ?_⟩
    refine lc_enum (K := K) (a := rl) (xs := ts.map V.ref) (fun j Hj => Same H Hj ∧ ∃ hs : List HomeA, hs.length = j ∧ Hj D = some (.lst (hs.map fun h => V.ref h.x)) ∧ (hs.flatMap HomeA.ds).Nodup ∧ (∀ h ∈ hs, D ∉ h.ls) ∧ (∀ y ∈ hs.flatMap HomeA.ds, H y = none) ∧ (∀ h ∈ hs, ∀ y ∈ h.ls, H y = none) ∧
        ∀ (i : Nat) h r, hs[i]? = some h → rs[i]? = some r → HomeAt Hj c.H c.N h (i : Nat) r.1 r.2 rs.length [] [])
      ⟨same_upd nD, [], rfl, upd_same, List.nodup_nil, (fun h m => by cases m), (fun y m => by cases m), (fun h m => by cases m), fun i h r z => by simp at z⟩ (fun j Hj ⟨sj, _⟩ => SqL.of (sj _ _ hrl)) ?_ ?_
    · rintro j v N Hj hj ⟨sj, hs, lhs, hD, ndp, nls, dnew, lnew, hat⟩ hN
      rw [List.getElem?_map] at hj
      obtain ⟨t, et, rfl⟩ := Option.map_eq_some_iff.mp hj
      obtain ⟨r, er, ht⟩ := paired_at hts j t et
      have sN := same_upd (o := .tup [.int (j : Nat), .ref t]) hN
      have htN := sN _ _ (sj _ _ ht)
      refine ⟨N, _, rfl, SqT.of upd_same, rfl, _, _, rfl, _, _, rfl, t, _, rfl, SqT.of htN, rfl, _, _, rfl, _, _, rfl, rfl, rfl, ?_⟩
      refine ⟨rfl, ?_⟩
      refine ⟨_, rfl, _, rfl, _, rfl, _, rfl, rl, _, rfl, .inl (SqL.of (sN _ _ (sj _ _ hrl))), fun x' dx' nx' ndx' ne' => ?_⟩
      rw [List.length_map, lts]
      refine ⟨x', dx', (j : Nat), r.1, r.2, rs.length, rfl, upd_same, hgs r (List.mem_of_getElem? er), c8, fun a H' ea edx oa fa nda ha => ⟨rfl, ?_⟩⟩
      have sNH : Same (upd Hj N (.tup [.int (j : Nat), .ref t])) H' := fun b o e => oa b o (by rw [upd_ne (ne_of_none e nx'), upd_ne (ne_of_none e ndx')]; exact e) (by simp [ne_of_none e nx'])
      have sJ : Same Hj H' := fun b o e => sNH _ _ (sN _ _ e)
      have hD' := sJ _ _ hD
      have jl : j < rs.length := (List.getElem?_eq_some_iff.mp er).1
      have some_no : ∀ {y o}, Hj y = some o → y ∉ a.ds ++ a.ls := fun e m => by
        have z := fa _ m
        have e1 := sN _ _ e
        rw [upd_ne (ne_of_none e1 nx'), upd_ne (ne_of_none e1 ndx'), e1] at z
        cases z
      refine ⟨_, hD', by rw [List.length_map]; exact small1000 (by omega), fun b o e => ?_, hs ++ [a], by rw [List.length_append, lhs]; rfl, ?_, ?_, ?_, ?_, ?_, ?_⟩
      · rw [upd_ne (ne_of_none e nD)]
        exact sJ _ _ (sj _ _ e)
      · rw [upd_same, List.map_append, List.map_cons, ea]
        rfl
      · rw [List.flatMap_append, List.nodup_append]
        refine ⟨ndp, by simpa using nda, fun y hy z hz e => ?_⟩
        subst e
        obtain ⟨h, mh, my⟩ := List.mem_flatMap.mp hy
        obtain ⟨i, hi⟩ := List.mem_iff_getElem?.mp mh
        have il : i < rs.length := by have := (List.getElem?_eq_some_iff.mp hi).1; omega
        have q := hat i h _ hi (List.getElem?_eq_getElem il)
        have hz : y ∈ a.ds := by simpa using hz
        simp only [HomeA.ds, List.mem_cons, List.not_mem_nil, or_false] at my
        rcases my with rfl | rfl | rfl
        · exact some_no q.num.2 (List.mem_append_left _ hz)
        · exact some_no q.st (List.mem_append_left _ hz)
        · exact some_no q.nw (List.mem_append_left _ hz)
      · intro h mh
        rcases List.mem_append.mp mh with m | m
        · exact nls h m
        · rw [List.mem_singleton.mp m]
          exact fun z => some_no hD (List.mem_append_right _ z)
      · intro y my
        rw [List.flatMap_append] at my
        rcases List.mem_append.mp my with m | m
        · exact dnew y m
        · have m : y ∈ a.ds := by simpa using m
          cases z : H y with
          | none => rfl
          | some u => exact (some_no (sj _ _ z) (List.mem_append_left _ m)).elim
      · intro h mh y my
        rcases List.mem_append.mp mh with m | m
        · exact lnew h m y my
        · rw [List.mem_singleton.mp m] at my
          cases z : H y with
          | none => rfl
          | some u => exact (some_no (sj _ _ z) (List.mem_append_right _ my)).elim
      · intro i h r' hi hr'
        by_cases q : i < hs.length
        · rw [List.getElem?_append_left q] at hi
          exact ((hat i h r' hi hr').same sJ).putL hD' (nls h (List.mem_of_getElem? hi))
        · rw [List.getElem?_append_right (by omega)] at hi
          have e0 : i - hs.length = 0 := by
            by_cases z : i - hs.length = 0
            · exact z
            · rw [List.getElem?_eq_none (by simp; omega)] at hi
              cases hi
          rw [e0] at hi
          have eh : a = h := by simpa using hi
          have ei : i = j := by omega
          subst eh ei
          rw [er] at hr'
          cases hr'
          exact ha.putL hD' (fun z => some_no hD (List.mem_append_right _ z))
    · rintro Hj ⟨sj, hs, lhs, hD, ndp, nls, dnew, lnew, hat⟩
      rw [List.length_map, lts] at lhs
      have xj := sj _ _ hx
      have dsH : ∀ (i : Nat) h r, hs[i]? = some h → rs[i]? = some r → ∀ y ∈ h.ds, ∀ o, H y = some o → False := fun i h r h1 _ y my o e => by
        rw [dnew y (List.mem_flatMap.mpr ⟨h, List.mem_of_getElem? h1, my⟩)] at e
        cases e
      refine ⟨_, rfl, x, c.W, dx, _, rfl, xj, TW.cl, TW.na _ (by decide), (by show 0 < 1000; decide), ?_⟩
      have nxD : D ≠ x := fun q => by rw [q, hx] at nD; cases nD
      have o1 : Off [x] H (upd Hj x (.ins c.W dx [("homes", .ref D)])) := Off.put (fun b u e _ => sj _ _ e)
      have x1 : upd Hj x (.ins c.W dx [("homes", .ref D)]) x = some (.ins c.W dx [("homes", .ref D)]) := upd_same
      have hD1 := (upd_ne (o := .ins c.W dx [("homes", .ref D)]) nxD).trans hD
      have hat1 : ∀ (i : Nat) h r, hs[i]? = some h → rs[i]? = some r → HomeAt (upd Hj x (.ins c.W dx [("homes", .ref D)])) c.H c.N h (i : Nat) r.1 r.2 rs.length [] [] := fun i h r h1 h2 => (hat i h r h1 h2).putW hCW.1 hCW.2.1 xj
      show tSeq _ _ _ _ (upd Hj x (.ins c.W dx [("homes", .ref D)]))
      generalize upd Hj x (.ins c.W dx [("homes", .ref D)]) = H1 at *
      refine fun b nb => ⟨_, rfl, x, c.W, dx, _, rfl, (by rw [upd_ne (ne_of_none x1 nb)]; exact x1), TW.cl, TW.na _ (by decide), (by show 1 < 1000; decide), ?_⟩
      show tSeq _ _ _ _ (upd (upd H1 b (.dK [])) x (.ins c.W dx [("homes", .ref D), ("bonds", .ref b)]))
      obtain ⟨o2, x2, b2, hD2, q2⟩ := web_step (F := [("homes", .ref D), ("bonds", .ref b)]) o1 x1 nb hD1 nxD
      have hat2 := fun (i : Nat) h r (h1 : hs[i]? = some h) (h2 : rs[i]? = some r) => ((hat1 i h r h1 h2).same (same_upd (o := .dK []) nb)).putW (f' := [("homes", .ref D), ("bonds", .ref b)]) hCW.1 hCW.2.1 q2
      have db : ∀ (i : Nat) h r, hs[i]? = some h → rs[i]? = some r → b ∉ h.ds := fun i h r h1 h2 m => (hat1 i h r h1 h2).ds_some nb m
      generalize upd (upd H1 b (.dK [])) x (.ins c.W dx [("homes", .ref D), ("bonds", .ref b)]) = H2 at *
      refine fun ml nm => ⟨_, rfl, x, c.W, dx, _, rfl, (by rw [upd_ne (ne_of_none x2 nm)]; exact x2), TW.cl, TW.na _ (by decide), (by show 2 < 1000; decide), ?_⟩
      show tSeq _ _ _ _ (upd (upd H2 ml (.dK [])) x (.ins c.W dx [("homes", .ref D), ("bonds", .ref b), ("mail", .ref ml)]))
      obtain ⟨o3, x3, m3, hD3, q3⟩ := web_step (F := [("homes", .ref D), ("bonds", .ref b), ("mail", .ref ml)]) o2 x2 nm hD2 nxD
      have b3 := web_keep (F := [("homes", .ref D), ("bonds", .ref b), ("mail", .ref ml)]) x2 nm b2
      have hat3 := fun (i : Nat) h r (h1 : hs[i]? = some h) (h2 : rs[i]? = some r) => ((hat2 i h r h1 h2).same (same_upd (o := .dK []) nm)).putW (f' := [("homes", .ref D), ("bonds", .ref b), ("mail", .ref ml)]) hCW.1 hCW.2.1 q3
      have dm : ∀ (i : Nat) h r, hs[i]? = some h → rs[i]? = some r → ml ∉ h.ds := fun i h r h1 h2 m => (hat2 i h r h1 h2).ds_some nm m
      generalize upd (upd H2 ml (.dK [])) x (.ins c.W dx [("homes", .ref D), ("bonds", .ref b), ("mail", .ref ml)]) = H3 at *
      refine fun bo nbo => ⟨_, rfl, x, c.W, dx, _, rfl, (by rw [upd_ne (ne_of_none x3 nbo)]; exact x3), TW.cl, TW.na _ (by decide), (by show 3 < 1000; decide), ?_⟩
      show tSeq _ _ _ _ (upd (upd H3 bo (.dK [])) x (.ins c.W dx [("homes", .ref D), ("bonds", .ref b), ("mail", .ref ml), ("bores", .ref bo)]))
      obtain ⟨o4, x4, bo4, hD4, q4⟩ := web_step (F := [("homes", .ref D), ("bonds", .ref b), ("mail", .ref ml), ("bores", .ref bo)]) o3 x3 nbo hD3 nxD
      have b4 := web_keep (F := [("homes", .ref D), ("bonds", .ref b), ("mail", .ref ml), ("bores", .ref bo)]) x3 nbo b3
      have m4 := web_keep (F := [("homes", .ref D), ("bonds", .ref b), ("mail", .ref ml), ("bores", .ref bo)]) x3 nbo m3
      have hat4 := fun (i : Nat) h r (h1 : hs[i]? = some h) (h2 : rs[i]? = some r) => ((hat3 i h r h1 h2).same (same_upd (o := .dK []) nbo)).putW (f' := [("homes", .ref D), ("bonds", .ref b), ("mail", .ref ml), ("bores", .ref bo)]) hCW.1 hCW.2.1 q4
      have dbo : ∀ (i : Nat) h r, hs[i]? = some h → rs[i]? = some r → bo ∉ h.ds := fun i h r h1 h2 m => (hat3 i h r h1 h2).ds_some nbo m
      generalize upd (upd H3 bo (.dK [])) x (.ins c.W dx [("homes", .ref D), ("bonds", .ref b), ("mail", .ref ml), ("bores", .ref bo)]) = H4 at *
      refine ⟨_, rfl, x, c.W, dx, _, rfl, x4, TW.cl, TW.na _ (by decide), (by show 4 < 1000; decide), ?_⟩
      have ew : putF "ever" (.int 0) [("homes", .ref D), ("bonds", .ref b), ("mail", .ref ml), ("bores", .ref bo)] = webF D b ml bo 0 := rfl
      rw [ew]
      have kd : ∀ {y kv}, H4 y = some (.dK kv) → upd H4 x (.ins c.W dx (webF D b ml bo 0)) y = some (.dK kv) := fun e => by rw [upd_ne (ne_of e x4 (fun z => by cases z))]; exact e
      have o5 : Off [x] H (upd H4 x (.ins c.W dx (webF D b ml bo 0))) := o4.put
      have x5 : upd H4 x (.ins c.W dx (webF D b ml bo 0)) x = some (.ins c.W dx (webF D b ml bo 0)) := upd_same
      have hD5 := (upd_ne (o := .ins c.W dx (webF D b ml bo 0)) nxD).trans hD4
      have b5 := kd b4
      have m5 := kd m4
      have bo5 := kd bo4
      have hat5 := fun (i : Nat) h r (h1 : hs[i]? = some h) (h2 : rs[i]? = some r) => (hat4 i h r h1 h2).putW (f' := webF D b ml bo 0) hCW.1 hCW.2.1 x4
      generalize upd H4 x (.ins c.W dx (webF D b ml bo 0)) = H5 at *
      refine ⟨_, rfl, x, c.W, dx, _, .ref D, rfl, x5, TW.cl, TW.na _ (by decide), rfl, D, rfl, ⟨_, SqL.of hD5⟩, ?_⟩
      refine for_list (K := K) (a := D) (xs := hs.map fun h => V.ref h.x) (fun i σ Hi => (∃ y2 y3 y4 y5, σ = [some (.ref x), some (.ref rl), y2, y3, y4, y5]) ∧ Off [x] H Hi ∧ Hi x = some (.ins c.W dx (webF D b ml bo (i : Nat))) ∧ Hi D = some (.lst (hs.map fun h => V.ref h.x)) ∧ Hi b = some (.dK []) ∧ Hi ml = some (.dK []) ∧ Hi bo = some (.dK []) ∧
          ∃ ss : List SlipA, ss.length = i ∧ (∀ z ∈ ss, ∀ h ∈ hs, z.td ∉ h.ds) ∧ (∀ (j : Nat) h r z, hs[j]? = some h → rs[j]? = some r → ss[j]? = some z → HomeAt Hi c.H c.N h (j : Nat) r.1 r.2 rs.length [r.1] [(Sum.inl r.1, V.ref z.sl)] ∧ SlipAt Hi c.S z (j : Nat) r.1 ((j : Nat) + 1)) ∧
          (∀ (j : Nat) h r, i ≤ j → hs[j]? = some h → rs[j]? = some r → HomeAt Hi c.H c.N h (j : Nat) r.1 r.2 rs.length [] []))
        ⟨⟨_, _, _, _, rfl⟩, o5, x5, hD5, b5, m5, bo5, [], rfl, (fun z m => by cases m), (fun j h r z _ _ h3 => by simp at h3), fun j h r _ h1 h2 => hat5 j h r h1 h2⟩ (fun i σ Hi _ q => SqL.of q.2.2.2.1) ?_ ?_
      · rintro i v σ Hi hi ⟨⟨y2, y3, y4, y5, rfl⟩, oi, xi, hDi, bi, mi, boi, ss, lss, ntd, hdone, hleft⟩
        rw [List.getElem?_map] at hi
        obtain ⟨h, eh, rfl⟩ := Option.map_eq_some_iff.mp hi
        have il : i < rs.length := by have := (List.getElem?_eq_some_iff.mp eh).1; omega
        obtain ⟨r, er⟩ : ∃ r, rs[i]? = some r := ⟨_, List.getElem?_eq_getElem il⟩
        have hh := hleft i h r (Nat.le_refl _) eh er
        have hgr := hgs r (List.mem_of_getElem? er)
        obtain ⟨rest, hspare⟩ := spare_first hgr
        have mh := List.mem_of_getElem? eh
        refine ⟨_, rfl, _, rfl, _, rfl, h.x, c.H, h.dx, _, .int (i : Nat), rfl, hh.me, TH.cl, TH.na _ (by decide), rfl, (by show 2 ≤ sizeLine; decide), fun wh nwh => ?_⟩
        have sa := same_upd (o := .tup [.str "goal", .int (i : Nat)]) nwh
        have wha : upd Hi wh (.tup [.str "goal", .int (i : Nat)]) wh = some (.tup [.str "goal", .int (i : Nat)]) := upd_same
        generalize upd Hi wh (.tup [.str "goal", .int (i : Nat)]) = Ha at *
        refine ⟨_, rfl, h.x, c.H, h.dx, _, .int (i : Nat), rfl, sa _ _ hh.me, TH.cl, TH.na _ (by decide), rfl, (by show 1 ≤ sizeLine; decide), fun pa npa => ?_⟩
        have sb := same_upd (o := .tup [.int (i : Nat)]) npa
        have pab : upd Ha pa (.tup [.int (i : Nat)]) pa = some (.tup [.int (i : Nat)]) := upd_same
        generalize upd Ha pa (.tup [.int (i : Nat)]) = Hb at *
        refine ⟨(by show 0 ≤ sizeLine; decide), fun hl nhl => ?_⟩
        have sc := same_upd (o := .lst []) nhl
        have hlc : upd Hb hl (.lst []) hl = some (.lst []) := upd_same
        generalize upd Hb hl (.lst []) = Hc at *
        have sAll : Same Hi Hc := fun y o e => sc _ _ (sb _ _ (sa _ _ e))
        have hhc := hh.same sAll
        have ndh : h.ds.Nodup := flat_one ndp mh
        have nds : h.dhd ≠ h.st := fun q => by
          simp only [HomeA.ds, List.nodup_cons, List.mem_cons] at ndh
          exact ndh.1 (.inl q)
        refine ⟨x, dx, D, b, ml, bo, h.x, h.dx, h.nu, h.dn, h.dhd, h.sg, h.wt, h.st, h.nw, h.qu, hl, (i : Nat), (i : Nat), r.1, r.2, r.1, [], rest, [], .ref wh, .non, .ref pa, rfl, sAll _ _ xi, hhc.me, hhc.num, hgr, (by decide), hhc.st, (by decide), hlc, nds, hspare, fun sl d dsl Hd nsl nd od wd dd std sld tdd => ?_⟩
        have free : ∀ {y}, Hc y = none → Hi y = none := fun {y} e => by
          cases z : Hi y with
          | none => rfl
          | some u => rw [sAll _ _ z] at e; cases e
        have nd3 : ∀ {y o}, Hc y = some o → y ≠ x → y ≠ h.dhd → y ≠ h.st → Hd y = some o := fun e n1 n2 n3 => od _ _ e (by simp [n1, n2, n3])
        have other : ∀ {j : Nat} {g : HomeA}, hs[j]? = some g → j ≠ i → ∀ y ∈ g.ds, y ∉ [x, h.dhd, h.st] := fun {j g} ej nji y my m => by
          simp only [List.mem_cons, List.not_mem_nil, or_false] at m
          have jl : j < rs.length := by have := (List.getElem?_eq_some_iff.mp ej).1; omega
          have disj : ∀ z ∈ h.ds, z ≠ y := fun z hz q => by
            subst q
            exact flat_ne ndp ej eh nji my hz
          rcases m with m | m | m
          · subst m
            by_cases ci : j < i
            · obtain ⟨q, _⟩ := hdone j g _ _ ej (List.getElem?_eq_getElem jl) (List.getElem?_eq_getElem (by omega))
              exact q.ds_dict (xi) my
            · exact (hleft j g _ (by omega) ej (List.getElem?_eq_getElem jl)).ds_dict xi my
          · exact disj _ (by simp [HomeA.ds]) m.symm
          · exact disj _ (by simp [HomeA.ds]) m.symm
        have kinds : ∀ y ∈ [x, h.dhd, h.st], (∃ kv, Hc y = some (.dK kv)) ∨ ∃ C dx e f, C ≠ c.H ∧ C ≠ c.N ∧ Hc y = some (.ins C dx (e :: f)) := fun y m => by
          simp only [List.mem_cons, List.not_mem_nil, or_false] at m
          rcases m with rfl | rfl | rfl
          · exact .inr ⟨c.W, dx, _, _, hCW.1, hCW.2.1, sAll _ _ xi⟩
          · exact .inl ⟨_, hhc.num.2⟩
          · exact .inl ⟨_, hhc.st⟩
        have nbd := db i h r eh er
        have nmd := dm i h r eh er
        have nbod := dbo i h r eh er
        have keepD : ∀ {y}, Hi y = some (.dK []) → y ∉ h.ds → Hd y = some (.dK []) := fun {y} e n => nd3 (sAll _ _ e) (ne_of e xi (fun z => by cases z)) (fun q => n (by simp [HomeA.ds, q])) (fun q => n (by simp [HomeA.ds, q]))
        have e1 : ((i : Nat) : Int) + 1 = ((i + 1 : Nat) : Int) := by omega
        rw [e1] at wd sld
        refine ⟨⟨_, _, _, _, rfl⟩, fun y o e ny => ?_, wd, ?_, keepD bi nbd, keepD mi nmd, keepD boi nbod, ss ++ [⟨sl, dsl, wh, pa, d⟩], by rw [List.length_append, lss]; rfl, ?_, ?_, ?_⟩
        · have e2 := oi y o e ny
          refine nd3 (sAll _ _ e2) (fun q => ny (by simp [q])) (fun q => ?_) (fun q => ?_)
          · exact dsH i h r eh er y (by simp [HomeA.ds, q]) o e
          · exact dsH i h r eh er y (by simp [HomeA.ds, q]) o e
        · exact nd3 (sAll _ _ hDi) nxD (ne_of hDi hh.num.2 (fun z => by cases z)) (ne_of hDi hh.st (fun z => by cases z))
        · intro z mz g mg
          rcases List.mem_append.mp mz with m | m
          · exact ntd z m g mg
          · rw [List.mem_singleton.mp m]
            intro q
            obtain ⟨j, ej⟩ := List.mem_iff_getElem?.mp mg
            have jl : j < rs.length := by have := (List.getElem?_eq_some_iff.mp ej).1; omega
            by_cases ci : j < i
            · obtain ⟨q1, _⟩ := hdone j g _ _ ej (List.getElem?_eq_getElem jl) (List.getElem?_eq_getElem (by omega))
              exact q1.ds_some (free nd) q
            · exact (hleft j g _ (by omega) ej (List.getElem?_eq_getElem jl)).ds_some (free nd) q
        · intro j g r' z ej er' ez
          by_cases q : j < ss.length
          · rw [List.getElem?_append_left q] at ez
            obtain ⟨q1, q2⟩ := hdone j g r' z ej er' ez
            refine ⟨(q1.same sAll).off od (other ej (by omega)) kinds, ?_⟩
            have q2c := q2.same sAll
            have ntz := ntd z (List.mem_of_getElem? ez) h mh
            refine ⟨nd3 q2c.me (ne_of q2c.me (sAll _ _ xi) (fun z => by injection z with z; exact hCW.2.2 z.symm)) (ne_of q2c.me hhc.num.2 (fun z => by cases z)) (ne_of q2c.me hhc.st (fun z => by cases z)),
              nd3 q2c.wh (ne_of q2c.wh (sAll _ _ xi) (fun z => by cases z)) (ne_of q2c.wh hhc.num.2 (fun z => by cases z)) (ne_of q2c.wh hhc.st (fun z => by cases z)),
              nd3 q2c.pa (ne_of q2c.pa (sAll _ _ xi) (fun z => by cases z)) (ne_of q2c.pa hhc.num.2 (fun z => by cases z)) (ne_of q2c.pa hhc.st (fun z => by cases z)),
              nd3 q2c.td (ne_of q2c.td (sAll _ _ xi) (fun z => by cases z)) (fun q => ntz (by simp [HomeA.ds, q])) (fun q => ntz (by simp [HomeA.ds, q]))⟩
          · rw [List.getElem?_append_right (by omega)] at ez
            have e0 : j - ss.length = 0 := by
              by_cases z0 : j - ss.length = 0
              · exact z0
              · rw [List.getElem?_eq_none (by simp; omega)] at ez
                cases ez
            rw [e0] at ez
            have ez : (⟨sl, dsl, wh, pa, d⟩ : SlipA) = z := by simpa using ez
            have ej2 : j = i := by omega
            subst ez ej2
            rw [eh] at ej
            cases ej
            rw [er] at er'
            cases er'
            refine ⟨⟨?_, ⟨?_, dd⟩, ?_, ?_, std, ?_, ?_⟩, ⟨sld, ?_, ?_, tdd⟩⟩
            · exact nd3 hhc.me (ne_of hhc.me (sAll _ _ xi) (fun z => by injection z with z; exact hCW.1 z.symm)) (ne_of hhc.me hhc.num.2 (fun z => by cases z)) (ne_of hhc.me hhc.st (fun z => by cases z))
            · exact nd3 hhc.num.1 (ne_of hhc.num.1 (sAll _ _ xi) (fun z => by injection z with z; exact hCW.2.1 z.symm)) (ne_of hhc.num.1 hhc.num.2 (fun z => by cases z)) (ne_of hhc.num.1 hhc.st (fun z => by cases z))
            · exact nd3 hhc.sg (ne_of hhc.sg (sAll _ _ xi) (fun z => by cases z)) (ne_of hhc.sg hhc.num.2 (fun z => by cases z)) (ne_of hhc.sg hhc.st (fun z => by cases z))
            · exact nd3 hhc.wt (ne_of hhc.wt (sAll _ _ xi) (fun z => by cases z)) (ne_of hhc.wt hhc.num.2 (fun z => by cases z)) (ne_of hhc.wt hhc.st (fun z => by cases z))
            · refine nd3 hhc.nw (ne_of hhc.nw (sAll _ _ xi) (fun z => by cases z)) (fun q => ?_) (fun q => ?_)
              · simp only [HomeA.ds, List.nodup_cons, List.mem_cons, List.not_mem_nil, or_false, not_or] at ndh
                exact ndh.1.2 q.symm
              · simp only [HomeA.ds, List.nodup_cons, List.mem_cons, List.not_mem_nil, or_false, not_or] at ndh
                exact ndh.2.1 q.symm
            · exact nd3 hhc.qu (ne_of hhc.qu (sAll _ _ xi) (fun z => by cases z)) (ne_of hhc.qu hhc.num.2 (fun z => by cases z)) (ne_of hhc.qu hhc.st (fun z => by cases z))
            · have q := sc _ _ (sb _ _ wha)
              exact nd3 q (ne_of q (sAll _ _ xi) (fun z => by cases z)) (ne_of q hhc.num.2 (fun z => by cases z)) (ne_of q hhc.st (fun z => by cases z))
            · have q := sc _ _ pab
              exact nd3 q (ne_of q (sAll _ _ xi) (fun z => by cases z)) (ne_of q hhc.num.2 (fun z => by cases z)) (ne_of q hhc.st (fun z => by cases z))
        · intro j g r' hij ej er'
          exact ((hleft j g r' (by omega) ej er').same sAll).off od (other ej (by omega)) kinds
      · rintro σ Hi ⟨⟨y2, y3, y4, y5, rfl⟩, oi, xi, hDi, bi, mi, boi, ss, lss, ntd, hdone, hleft⟩
        rw [List.length_map, lhs] at lss xi
        refine kk ⟨x, dx, D, b, ml, bo, hs, ss⟩ Hi rfl oi ⟨xi, hDi, bi, mi, boi, lhs, lss, c1, c8, fun i h r z h1 h2 h3 => ?_⟩ nD lnew
        obtain ⟨q1, q2⟩ := hdone i h r z h1 h2 h3
        exact ⟨hgs r (List.mem_of_getElem? h2), q1, q2⟩
end
end K

namespace K
open PySem PySem.Spec PyProof.Rows L2
/-- a refusal out of the making of x -/
def OffX (C : Addr) (wd : Str) (x : Addr) (H : Hp) (E : XK) : Prop := ∀ (d : Addr) (H' : Hp), H d = none → Off [x] H H' → H' d = some (.xd [("word", .str wd)]) → E (.ref C) (some d) H'
def spNumB (C CB : Addr) : Sp := fun vs H Q E => ∃ (x dx : Addr) (lo hi : Int), vs = [.ref x, .int lo, .int hi] ∧ H x = some (.ins C dx []) ∧ ¬ goodR lo hi ∧ OffX CB "badrange" x H E
def spHouseB (CH CB : Addr) : Sp := fun vs H Q E => ∃ (x dx : Addr) (nm lo hi : Int) (n : Nat), vs = [.ref x, .int nm, .int lo, .int hi, .int (n : Nat)] ∧ H x = some (.ins CH dx []) ∧ ¬ goodR lo hi ∧ OffX CB "badrange" x H E
def spWebB (c : WebC) (CB : Addr) : Sp := fun vs H Q E => ∃ (x dx rl : Addr) (rs : List (Int × Int)), vs = [.ref x, .ref rl] ∧ H x = some (.ins c.W dx []) ∧ RangesAt H rl rs ∧ 1 ≤ rs.length ∧ rs.length ≤ 8 ∧ (∃ r ∈ rs, ¬ goodR r.1 r.2) ∧ OffX CB "badrange" x H E
def spOr (a b : Sp) : Sp := fun vs H Q E => a vs H Q E ∨ b vs H Q E
theorem fn_or {P : Program} {w : World} {K : PySem.W.Frag} {mg : Str → Option Value} {base : Heap} {CX : CXT} {k : Nat} {f : Addr} {fd : FuncData} {ps : List Str} {a b : Sp} (F : FnOk P w K mg base CX k f fd ps a) (G : FnOk P w K mg base CX k f fd ps b) : FnOk P w K mg base CX k f fd ps (spOr a b) :=
  ⟨fun vs H Q E h => h.elim (F.len vs H Q E) (G.len vs H Q E), fun A o s H ar us vs Q E hr he hb hv h => h.elim (F.run A o s H ar us vs Q E hr he hb hv) (G.run A o s H ar us vs Q E hr he hb hv)⟩
theorem fn_up {P : Program} {w : World} {K : PySem.W.Frag} {mg : Str → Option Value} {base : Heap} {CX : CXT} {k : Nat} {f : Addr} {fd : FuncData} {ps : List Str} {a : Sp} (F : FnOk P w K mg base CX0 k f fd ps a) : FnOk P w K mg base CX k f fd ps a :=
  ⟨F.len, fun A o s H ar us vs Q E hr he hb hv h => codeAny_mono (F.run A o s H ar us vs Q E hr he hb hv h) fun r z q => by
    cases r with
    | error e => exact False.elim q
    | ok fl => cases fl <;> exact q⟩
section
variable {P : Program} {w : World} {K : PySem.W.Frag} {mg : Str → Option Value} {base : Heap}
theorem ok_numB {f C fI fR CB fB : Addr} {fd fdR fdB : FuncData} {k : Nat} (F : Fun K "__init__" "Numbers.__init__" sNumI f fd) (cR : Cal P w K mg base (k + 2) "is_range" fR fdR ["low", "high"] spIsRange) (N : ExcC P w K mg base (k + 1) "BadRange" CB fB fdB ["self"] (spIn0 K "badrange")) :
    FnOk P w K mg base (L2.CX P w) (k + 3) f fd ["self", "low", "high"] (spNumB C CB) := by
  refine F.okX scNumI (fun vs H Q E h => ?_) (fun cdv A outer s H vs Q E hr h => ?_)
  · obtain ⟨x, dx, lo, hi, rfl, _⟩ := h
    rfl
  · obtain ⟨x, dx, lo, hi, rfl, hx, hg, hX⟩ := h
    have hr3 : Room (k + 2) _ := hr
    refine ⟨_, pss_cons (ps_if (pt_not (pt_val (pe_call cR.ok hr (by rfl) cR.g cR.kp cR.b .nil pass0 (pa_cons (pv 1) (pa_cons (pv 2) pa_nil))))) (pss_one (ps_raise rfl (takes_of rfl rfl rfl rfl) (pmk_oex0 N.t.oex N.t.iC N.t.tI N.ok hr3 N.b pass0 (by rfl) N.t.g))) pss_nil)
      (pss_cons ps_never (pss_cons ps_never (pss_one ps_never))), ?_⟩
    refine ⟨_, rfl, _, rfl, lo, hi, rfl, fun b hb => ⟨_, rfl, ?_⟩⟩
    have eb : b = false := Bool.eq_false_iff.mpr fun z => hg (hb.mp z)
    subst eb
    refine iteT ⟨(by show 0 ≤ 1000; decide), fun a na => ?_⟩
    refine ⟨a, CB, rfl, N.t.oex, N.t.word, upd_same, fun dx2 H3 nd ne k2 ha2 hd2 => ⟨rfl, dx2, _, ha2, hd2, ?_, ?_⟩⟩
    · rw [upd_ne ne] at nd
      exact nd
    · have nd0 : H dx2 = none := by rw [upd_ne ne] at nd; exact nd
      have s := raised_same (fs := [("word", .str "badrange")]) na (fun b o e hb => k2 b o (by rw [upd_ne hb]; exact e) hb) nd0
      exact hX dx2 _ nd0 (fun b o e _ => s b o e) upd_same
theorem ok_houseB {f CH fH CN fN CB : Addr} {fd fdN : FuncData} {k : Nat} (F : Fun K "__init__" "House.__init__" sHouseI f fd) (TH : ClsT K mg "House" CH fH homeFs) (TN : NumT K mg CN fN) (GN : FnOk P w K mg base (L2.CX P w) k fN fdN ["self", "low", "high"] (spNumB CN CB)) (bN : Binds K fdN ["self", "low", "high"] []) :
    FnOk P w K mg base (L2.CX P w) (k + 2) f fd ["self", "name", "low", "high", "many"] (spHouseB CH CB) := by
  refine F.okX scHouseI (fun vs H Q E h => ?_) (fun cdv A outer s H vs Q E hr h => ?_)
  · obtain ⟨x, dx, nm, lo, hi, n, rfl, _⟩ := h
    rfl
  · obtain ⟨x, dx, nm, lo, hi, n, rfl, hx, hg, hX⟩ := h
    refine ⟨_, pss_cons (ps_fld (pv 0) (pv 1) rfl) (pss_cons (ps_fld (pv 0) (pe_make TN.made GN hr (by rfl) TN.g bN .nil (passes_call (takes_of rfl rfl rfl rfl) (fun _ _ _ _ h => h)) (pa_cons (pv 2) (pa_cons (pv 3) pa_nil))) rfl)
      (pss_cons ps_never (pss_cons ps_never (pss_cons ps_never (pss_cons ps_never (pss_cons ps_never (pss_one ps_never))))))), ?_⟩
    refine ⟨_, rfl, _, rfl, x, CH, dx, _, rfl, hx, TH.cl, TH.na _ (by decide), (by show 0 < 1000; decide), ?_⟩
    have o1 : Off [x] H (upd H x (.ins CH dx [("name", .int nm)])) := Off.put (fun b u e _ => e)
    have x1 : upd H x (.ins CH dx [("name", .int nm)]) x = some (.ins CH dx [("name", .int nm)]) := upd_same
    show tSeq _ _ _ _ (upd H x (.ins CH dx [("name", .int nm)]))
    generalize upd H x (.ins CH dx [("name", .int nm)]) = H1 at *
    refine ⟨_, rfl, _, rfl, fun nu dn nnu ndn ndd => ⟨nu, dn, lo, hi, rfl, upd_same, hg, fun d H2 nd k2 hd2 => ?_⟩⟩
    have nd1 : H1 d = none := by
      have q1 : d ≠ nu := fun q => by rw [q, upd_same] at nd; cases nd
      rw [upd_ne q1] at nd
      by_cases q : d = dn
      · rw [q, upd_same] at nd; cases nd
      · rw [upd_ne q] at nd; exact nd
    refine hX d H2 (o1.fresh x1 nd1).1 (fun b o e nb => ?_) hd2
    have e1 := o1 b o e nb
    exact k2 b o (by rw [upd_ne (ne_of_none e1 nnu), upd_ne (ne_of_none e1 ndn)]; exact e1) (by simp [ne_of_none e1 nnu])
theorem ok_webB {f fW fH CB : Addr} {c : WebC} {fd fdH : FuncData} {k : Nat} {tk : Tok} (F : Fun K "__init__" "Web.__init__" sW_init f fd) (T : BT mg) (TW : ClsT K mg "Web" c.W fW webFs) (TH : ClsT K mg "House" c.H fH homeFs) (g8 : mg "MOST_HOUSES" = some (.int 8 tk))
    (GH : FnOk P w K mg base (L2.CX P w) (k + 2) fH fdH ["self", "name", "low", "high", "many"] (spOr (spHouseI c.H c.N) (spHouseB c.H CB))) (bH : Binds K fdH ["self", "name", "low", "high", "many"] []) :
    FnOk P w K mg base (L2.CX P w) (k + 4) f fd ["self", "ranges"] (spWebB c CB) := by
  refine F.okX scWebI (fun vs H Q E h => ?_) (fun cdv A outer s H vs Q E hr h => ?_)
  · obtain ⟨x, dx, rl, rs, rfl, _⟩ := h
    rfl
  · obtain ⟨x, dx, rl, rs, rfl, hx, ⟨ts, hrl, hts⟩, l1, l8, hbad, hX⟩ := h
    refine ⟨_, pss_cons (ps_if (pt_not (pt_chain op_le op_le pe_int (pe_callB call_len_seq (by rfl) T.len PySem.boot_len (pa_cons (pv 1) pa_nil)) (pe_glob (v := .int 8) (by rfl) g8 ⟨_, rfl⟩))) (pss_one ps_never) pss_nil)
      (pss_cons (ps_fld (pv 0) (SwX.pe_lcX (own := [("name", 2), ("low", 3), ("high", 4)]) (g := gTup K 2 (gCons (gName 2) (gCons (gTup K 2 (gCons (gName 3) (gCons (gName 4) gNil))) gNil))) (tt := tYes) (E := E) (takes_of rfl rfl rfl rfl) (fun _ _ _ _ h => h) rfl rfl rfl scWebI.nd (by exact (pi_enum (by rfl) T.enumerate (pa_cons (pv 1) pa_nil)))
        (blkOk_by (own := [("name", 2), ("low", 3), ("high", 4)]) (N := ["self", "ranges", "name", "low", "high", "home"]) (sc := defScope sW_init) (by decide +kernel)) (fun _ _ _ _ _ => by exact (pg_tup rfl (pgs_cons (pg_name (i := 2) scWebI.nd rfl (Or.inl rfl)) (pgs_cons (pg_tup rfl (pgs_cons (pg_name (i := 3) scWebI.nd rfl (Or.inl rfl)) (pgs_cons (pg_name (i := 4) scWebI.nd rfl (Or.inl rfl)) pgs_nil))) pgs_nil)))) (fun _ _ _ _ _ => by exact pts_nil)
        (fun _ _ _ _ _ => by exact (pe_make TH.made GH hr (by rfl) TH.g bH .nil SwX.pass_bx (pa_cons (pv 2) (pa_cons (pv 3) (pa_cons (pv 4) (pa_cons (pe_callB (r := rLenK K) call_len_seq (by rfl) T.len PySem.boot_len (pa_cons (pv 1) pa_nil)) pa_nil))))))) rfl) (pss_cons ps_never (pss_cons ps_never (pss_cons ps_never (pss_cons ps_never (pss_one ps_never)))))), ?_⟩
    have lts : ts.length = rs.length := paired_len hts
    refine ⟨_, rfl, rl, _, rfl, .inl (SqL.of hrl), _, _, rfl, rfl, _, rfl, ?_⟩
    rw [List.length_map, lts]
    refine ifT0 (decide_eq_true (by omega)) ⟨_, _, rfl, rfl, _, rfl, ?_⟩
    refine ifF0 (by rw [decide_eq_true (show (rs.length : Int) ≤ 8 by omega)]; rfl) ?_
    refine ⟨_, rfl, rl, _, rfl, SqL.of hrl, fun D nD => ?_⟩
    refine lc_enum (K := K) (a := rl) (xs := ts.map V.ref) (fun j Hj => Same H Hj ∧ ∃ us : List V, us.length = j ∧ Hj D = some (.lst us) ∧ ∀ (i : Nat) r, i < j → rs[i]? = some r → goodR r.1 r.2)
      ⟨same_upd nD, [], rfl, upd_same, fun i r z => absurd z (Nat.not_lt_zero _)⟩ (fun j Hj ⟨sj, _⟩ => SqL.of (sj _ _ hrl)) ?_ ?_
    · rintro j v N Hj hj ⟨sj, us, lus, hD, hgs⟩ hN
      rw [List.getElem?_map] at hj
      obtain ⟨t, et, rfl⟩ := Option.map_eq_some_iff.mp hj
      obtain ⟨r, er, ht⟩ := paired_at hts j t et
      have sN := same_upd (o := .tup [.int (j : Nat), .ref t]) hN
      have htN := sN _ _ (sj _ _ ht)
      refine ⟨N, _, rfl, SqT.of upd_same, rfl, _, _, rfl, _, _, rfl, t, _, rfl, SqT.of htN, rfl, _, _, rfl, _, _, rfl, rfl, rfl, ?_⟩
      refine ⟨rfl, ?_⟩
      refine ⟨_, rfl, _, rfl, _, rfl, _, rfl, rl, _, rfl, .inl (SqL.of (sN _ _ (sj _ _ hrl))), fun x' dx' nx' ndx' ne' => ?_⟩
      rw [List.length_map, lts]
      have jl : j < rs.length := (List.getElem?_eq_some_iff.mp er).1
      by_cases hg : goodR r.1 r.2
      · refine .inl ⟨x', dx', (j : Nat), r.1, r.2, rs.length, rfl, upd_same, hg, l8, fun a H' ea edx oa fa nda ha => ⟨rfl, ?_⟩⟩
        have sNH : Same (upd Hj N (.tup [.int (j : Nat), .ref t])) H' := fun b o e => oa b o (by rw [upd_ne (ne_of_none e nx'), upd_ne (ne_of_none e ndx')]; exact e) (by simp [ne_of_none e nx'])
        have sJ : Same Hj H' := fun b o e => sNH _ _ (sN _ _ e)
        refine ⟨_, sJ _ _ hD, small1000 (by omega), fun b o e => ?_, us ++ [.ref x'], by rw [List.length_append, lus]; rfl, upd_same, fun i r' hi hr' => ?_⟩
        · rw [upd_ne (ne_of_none e nD)]
          exact sJ _ _ (sj _ _ e)
        · by_cases q : i = j
          · subst q
            rw [er] at hr'
            cases hr'
            exact hg
          · exact hgs i r' (by omega) hr'
      · refine .inr ⟨x', dx', (j : Nat), r.1, r.2, rs.length, rfl, upd_same, hg, fun d H' nd oa hd' => ?_⟩
        have nd1 : (upd Hj N (.tup [.int (j : Nat), .ref t])) d = none := by
          have q1 : d ≠ x' := fun q => by rw [q, upd_same] at nd; cases nd
          rw [upd_ne q1] at nd
          by_cases q : d = dx'
          · rw [q, upd_same] at nd; cases nd
          · rw [upd_ne q] at nd; exact nd
        have sH : Same H H' := fun b o e => by
          have e1 := sN _ _ (sj _ _ e)
          exact oa b o (by rw [upd_ne (ne_of_none e1 nx'), upd_ne (ne_of_none e1 ndx')]; exact e1) (by simp [ne_of_none e1 nx'])
        exact hX d H' (sj.free (sN.free nd1)) (fun b o e _ => sH _ _ e) hd'
    · rintro Hj ⟨sj, us, lus, hD, hgs⟩
      obtain ⟨r, mr, hr'⟩ := hbad
      obtain ⟨i, ei⟩ := List.mem_iff_getElem?.mp mr
      have il := (List.getElem?_eq_some_iff.mp ei).1
      rw [List.length_map, lts] at hgs
      exact absurd (hgs i r il ei) hr'
end
end K


namespace K
open PySem PySem.Spec PyProof.Rows L2
open Sw (T3 Dist)
abbrev sWild : Stmt := top 40
def spWild : Sp := fun vs H Q _ => ∃ (p q : Addr), vs = [.ref p] ∧ BoxAt H p q ∧ ∀ (z : Int) (H' : Hp), (z = -1 ∨ z = 8 ∨ z = 9 ∨ z = 10 ^ 20 ∨ z = -(10 ^ 30)) → BoxAt H' p q → But p H H' → Q (.int z) H'
theorem ifT {c : Bool} {A B : Prop} (hc : c = true) (h : A) : if c = true then A else B := by rw [if_pos hc]; exact h
theorem ifF {c : Bool} {A B : Prop} (hc : c = false) (h : B) : if c = true then A else B := by rw [hc, if_neg Bool.false_ne_true]; exact h
section
variable {P : Program} {w : World} {K : PySem.W.Frag} {mg : Str → Option Value} {base : Heap}
theorem scWild : FnScope ["_law_box_here"] ["_law_box_here"] (defScope sWild) := ⟨rfl, rfl, rfl, by decide +kernel, rfl, by decide +kernel, by decide +kernel⟩
theorem ok_wild {f fT : Addr} {fd fdT : FuncData} {k : Nat} (F : Fun K "_law_wild" "_law_wild" sWild f fd) (c_law_take : Cal P w K mg base (k + 1) "_law_take" fT fdT ["_law_box_here", "_law_sides"] spTake) : FnOk P w K mg base CX0 (k + 2) f fd ["_law_box_here"] spWild := by
  refine F.ok scWild (fun vs H Q E h => ?_) (fun cdv A outer s H vs Q E hr h => ?_)
  · obtain ⟨p, q, rfl, _⟩ := h
    rfl
  · obtain ⟨p, q, rfl, hB, kk⟩ := h
    refine ⟨_, (pss_one (ps_ret (pe_ix (r := rIxL K) ix_list (pe_lst (pa_cons (pe_un un_neg pe_int) (pa_cons pe_int (pa_cons pe_int (pa_cons (pe_op op_pow pe_int pe_int) (pa_cons (pe_un un_neg (pe_op op_pow pe_int pe_int)) pa_nil)))))) (pe_call c_law_take.ok hr (by rfl) c_law_take.g c_law_take.kp c_law_take.b .nil pass0 (pa_cons (pv 0) (pa_cons pe_int pa_nil))) (fun _ _ => rfl)))), ?_⟩
    refine ⟨1, rfl, 10, 20, rfl, rfl, ⟨by decide, by decide, by decide⟩, 10, 30, rfl, rfl, ⟨by decide, by decide, by decide⟩, _, rfl, (by show 5 ≤ sizeLine; decide), fun l nl => ?_⟩
    have s1 := same_upd (o := .lst [.int (-1), .int 8, .int 9, .int (10 ^ (20 : Int).toNat), .int (-(10 ^ (30 : Int).toNat))]) nl
    obtain ⟨op, ep⟩ := hB.p_some
    have nlp : l ≠ p := Ne.symm (ne_of_none ep nl)
    refine ⟨_, rfl, p, q, 5, rfl, hB.same s1, by omega, by omega, fun z H2 hz0 hz1 B2 b2 => ?_⟩
    have hl2 : H2 l = some (.lst [.int (-1), .int 8, .int 9, .int (10 ^ (20 : Int).toNat), .int (-(10 ^ (30 : Int).toNat))]) := b2 _ _ upd_same nlp
    have b : But p H H2 := (But.of_same s1).trans b2
    have : z = 0 ∨ z = 1 ∨ z = 2 ∨ z = 3 ∨ z = 4 := by omega
    rcases this with e | e | e | e | e
    · subst e; exact ⟨l, _, 0, _, rfl, rfl, SqL.of hl2, rfl, kk _ H2 (.inl rfl) B2 b⟩
    · subst e; exact ⟨l, _, 1, _, rfl, rfl, SqL.of hl2, rfl, kk _ H2 (.inr (.inl rfl)) B2 b⟩
    · subst e; exact ⟨l, _, 2, _, rfl, rfl, SqL.of hl2, rfl, kk _ H2 (.inr (.inr (.inl rfl))) B2 b⟩
    · subst e; exact ⟨l, _, 3, _, rfl, rfl, SqL.of hl2, rfl, kk _ H2 (.inr (.inr (.inr (.inl rfl)))) B2 b⟩
    · subst e; exact ⟨l, _, 4, _, rfl, rfl, SqL.of hl2, rfl, kk _ H2 (.inr (.inr (.inr (.inr rfl)))) B2 b⟩
end
end K


namespace K
open PySem PySem.Spec PyProof.Rows L2
abbrev sBad : Stmt := top 41
abbrev sMade : Stmt := top 42
abbrev sLaw : Stmt := top 43
def spBad : Sp := fun vs H Q _ => ∃ lo hi : Int, vs = [.int lo, .int hi] ∧ ∀ b : Bool, (b = true ↔ ¬ goodR lo hi) → Q (.bl b) H
def spMade : Sp := fun vs H Q _ => ∃ (rl : Addr) (rs : List (Int × Int)) (way : Int), vs = [.ref rl, .int way] ∧ RangesAt H rl rs ∧ 1 ≤ rs.length ∧ rs.length ≤ 8 ∧ (way = 0 → rs.length = 1) ∧ ∀ (b : Bool) (H' : Hp), (b = true ↔ ∀ r ∈ rs, goodR r.1 r.2) → Same H H' → Q (.bl b) H'
def rngT (r : Int × Int) : PyData := .tuple [.int r.1, .int r.2]
def rngD (rs : List (Int × Int)) : PyData := .list (rs.map rngT)
theorem dp_rng {K : PySem.W.Frag} {H : Hp} {t : Addr} {rs : List (Int × Int)} (h : RangesAt H t rs) : Dp K H (.ref t) (rngD rs) := by
  obtain ⟨as, h1, h2⟩ := h
  refine .lst (SqL.of h1) ?_
  clear h1
  induction h2 with
  | nil => exact .nil
  | cons r _ ih => exact .cons (.tup (SqT.of r) (.cons (.int _) (.cons (.int _) .nil))) ih
theorem lay_rng (rs : List (Int × Int)) : PyData.canLayAll0 (rs.map rngT) = true := by
  induction rs with
  | nil => simp [PyData.canLayAll0]
  | cons e rs ih => simp [PyData.canLayAll0, PyData.canLay0, rngT, ih]
theorem depth_rng (rs : List (Int × Int)) : PyData.depthAll (rs.map rngT) ≤ 2 := by
  induction rs with
  | nil => simp [PyData.depthAll]
  | cons e rs ih =>
    have h1 : (rngT e).depth ≤ 2 := by simp [rngT, PyData.depth, PyData.depthAll]
    simp only [List.map_cons, PyData.depthAll]
    omega
theorem shaped_rng (rs : List (Int × Int)) : SeqAt.shaped (rngD rs) = true := by
  unfold SeqAt.shaped rngD
  have h1 := lay_rng rs
  have h2 := depth_rng rs
  have h3 : (PyData.list (rs.map rngT)).canLay0 = true := by simpa [PyData.canLay0] using h1
  have h4 : (PyData.list (rs.map rngT)).depth ≤ 64 := by
    have e : (PyData.list (rs.map rngT)).depth = PyData.depthAll (rs.map rngT) + 1 := by simp [PyData.depth, Nat.add_comm]
    omega
  rw [h3, decide_eq_true h4]
  rfl
theorem eqv_rngAll : ∀ rs : List (Int × Int), PyData.eqvAll (rs.map rngT) (rs.map rngT) = true
  | [] => by simp [PyData.eqvAll]
  | e :: rs => by simp [PyData.eqvAll, PyData.eqv, rngT, eqv_rngAll rs]
theorem eqv_rng (rs : List (Int × Int)) : PyData.eqv (rngD rs) (rngD rs) = true := by
  have := eqv_rngAll rs
  simpa [rngD, PyData.eqv] using this
theorem paired_ins {α β : Type} {R : α → β → Prop} {x : α} {y : β} (r : R x y) {xs : List α} {ys : List β} (h : Paired R xs ys) : ∀ i, Paired R (xs.take i ++ [x] ++ xs.drop i) (ys.take i ++ [y] ++ ys.drop i) := by
  induction h with
  | nil => intro i; simpa using Paired.cons r .nil
  | cons q t ih =>
    intro i
    cases i with
    | zero => simpa using Paired.cons r (.cons q t)
    | succ i => simpa using Paired.cons q (by simpa using ih i)
theorem box_tup {H : Hp} {p q t : Addr} {xs : List V} (B : BoxAt H p q) (h : H t = some (.tup xs)) : t ≠ p := fun e => by
  obtain ⟨ms, i, u, v, hp, _⟩ := B
  rw [e, hp] at h
  cases h
theorem RangesAt.same {H H' : Hp} {l : Addr} {rs : List (Int × Int)} (h : RangesAt H l rs) (s : Same H H') : RangesAt H' l rs := by
  obtain ⟨ts, h1, h2⟩ := h
  exact ⟨ts, s _ _ h1, paired_mono (fun t r z => s _ _ z) h2⟩
theorem made_same {H H' : Hp} {x dx : Addr} {o u : HO} (nx : H x = none) (nd : H dx = none) (oa : Off [x] (upd (upd H dx o) x u) H') : Same H H' := fun b v e =>
  oa b v (by rw [upd_ne (ne_of_none e nx), upd_ne (ne_of_none e nd)]; exact e) (by simp [ne_of_none e nx])
theorem ins_good {rs : List (Int × Int)} {lo hi : Int} (i : Nat) (h : ∀ r ∈ rs, goodR r.1 r.2) : (∀ r ∈ rs.take i ++ [(lo, hi)] ++ rs.drop i, goodR r.1 r.2) ↔ goodR lo hi := by
  constructor
  · exact fun z => z (lo, hi) (by simp)
  · intro z r m
    rcases List.mem_append.mp m with m | m
    · rcases List.mem_append.mp m with m | m
      · exact h r (List.mem_of_mem_take m)
      · rw [List.mem_singleton.mp m]; exact z
    · exact h r (List.mem_of_mem_drop m)
theorem not_of {g b : Bool} {A : Prop} (h1 : g = true ↔ A) (h2 : b = true ↔ ¬ A) : g = !b := by
  by_cases a : A
  · rw [h1.mpr a, Bool.eq_false_iff.mpr fun z => h2.mp z a]; rfl
  · rw [h2.mpr a, Bool.eq_false_iff.mpr fun z => a (h1.mp z)]; rfl
theorem low_of (w z : Int) (h0 : 0 ≤ z) (h1 : z < 8) (a b c d e f g : Int) : ∃ m : Int, atI [V.int a, V.int b, V.int c, V.int d, V.int e, V.int f, V.int g, V.int w] z = some (.int m) := by
  have : z = 0 ∨ z = 1 ∨ z = 2 ∨ z = 3 ∨ z = 4 ∨ z = 5 ∨ z = 6 ∨ z = 7 := by omega
  rcases this with r | r | r | r | r | r | r | r <;> subst r <;> exact ⟨_, rfl⟩
section
variable {P : Program} {w : World} {K : PySem.W.Frag} {mg : Str → Option Value} {base : Heap}
theorem scBad : FnScope ["_law_low", "_law_high"] ["_law_low", "_law_high"] (defScope sBad) := ⟨rfl, rfl, rfl, by decide +kernel, rfl, by decide +kernel, by decide +kernel⟩
theorem ok_bad {f : Addr} {fd : FuncData} {k : Nat} (F : Fun K "_law_bad" "_law_bad" sBad f fd) : FnOk P w K mg base CX0 (k + 1) f fd ["_law_low", "_law_high"] spBad := by
  refine F.ok scBad (fun vs H Q E h => ?_) (fun cdv A outer s H vs Q E hr h => ?_)
  · obtain ⟨lo, hi, rfl, _⟩ := h
    rfl
  · obtain ⟨lo, hi, rfl, kk⟩ := h
    refine ⟨_, (pss_one (ps_ret (pe_or (pe_cmpR op_lt (pv 0) pe_int (nomark _)) (pe_or (pe_cmpR op_lt (pv 1) (pv 0) (nomark _)) (pe_or (pe_cmpR op_gt (pv 1) (pe_op op_add (pv 0) pe_int) (nomark _)) (pe_one (pe_cmpR op_gt (pv 1) pe_int (nomark _)))))))), ?_⟩
    have kk : ∀ b : Bool, (b = true ↔ ¬ (1 ≤ lo ∧ lo ≤ hi ∧ hi ≤ lo + 63 ∧ hi ≤ 9999)) → Q (.bl b) H := kk
    refine ⟨_, rfl, _, _, rfl, rfl, _, rfl, ite2 (fun c => ?_) (fun c => ?_)⟩
    · refine kk _ ?_
      have c1 := of_decide_eq_true c
      exact ⟨fun _ => by omega, fun _ => rfl⟩
    · have c : ¬ (lo < 1) := fun z => c (decide_eq_true z)
      refine ⟨_, rfl, _, rfl, _, _, rfl, rfl, _, rfl, ite2 (fun c2 => ?_) (fun c2 => ?_)⟩
      · refine kk _ ?_
        have c3 := of_decide_eq_true c2
        exact ⟨fun _ => by omega, fun _ => rfl⟩
      · have c2 : ¬ (hi < lo) := fun z => c2 (decide_eq_true z)
        refine ⟨_, rfl, _, rfl, _, _, rfl, rfl, _, _, rfl, rfl, _, rfl, ite2 (fun c3 => ?_) (fun c3 => ?_)⟩
        · refine kk _ ?_
          have c4 := of_decide_eq_true c3
          exact ⟨fun _ => by omega, fun _ => rfl⟩
        · have c3 : ¬ (lo + 63 < hi) := fun z => c3 (decide_eq_true z)
          refine ⟨_, rfl, _, _, rfl, rfl, kk _ ?_⟩
          rw [decide_eq_true_iff]
          omega
theorem scMade : FnScope ["_law_ranges", "_law_way", "_law_found"] ["_law_ranges", "_law_way"] (defScope sMade) := ⟨rfl, rfl, rfl, by decide +kernel, rfl, by decide +kernel, by decide +kernel⟩
theorem ok_made {f fN fW CB fB CM : Addr} {c : WebC} {fd fdN fdW : FuncData} {k : Nat} (F : Fun K "_law_made" "_law_made" sMade f fd) (TN : NumT K mg c.N fN) (TW : ClsT K mg "Web" c.W fW webFs) (GN : FnOk P w K mg base (L2.CX P w) k fN fdN ["self", "low", "high"] (spOr (spNumI c.N) (spNumB c.N CB))) (bN : Binds K fdN ["self", "low", "high"] [])
    (GW : FnOk P w K mg base (L2.CX P w) k fW fdW ["self", "ranges"] (spOr (spWebI c CM) (spWebB c CB))) (bW : Binds K fdW ["self", "ranges"] []) (TB : ExcT K mg "BadRange" CB fB) (eBB : PySem.W.exmOne K (.ref CB) (.ref CB) = some true) : FnOk P w K mg base CX0 (k + 2) f fd ["_law_ranges", "_law_way"] spMade := by
  refine F.ok scMade (fun vs H Q E h => ?_) (fun cdv A outer s H vs Q E hr h => ?_)
  · obtain ⟨rl, rs, way, rfl, _⟩ := h
    rfl
  · obtain ⟨rl, rs, way, rfl, hR, l1, l8, hw, kk⟩ := h
    obtain ⟨ts, hrl, hts⟩ := hR
    refine ⟨_, pss_one (ps_try_mix (tb := fun W => tSeq (tAsg (tIf _ (tMake _ _ [] (fun cls d H => ∀ σ, W cls d σ H) _) (tMake _ _ [] (fun cls d H => ∀ σ, W cls d σ H) _)) _) _) (Wout := fun _ _ _ _ => False) rfl rfl takes0
        (fun W pn xe tk _ => pss_cons (ps_set (i := 2) scMade.nd rfl (.inl rfl) (pe_ifExp (pt_cmpR op_eq (pv 1) pe_int (nomark _)) (by exact (pe_make TN.made GN hr (by rfl) TN.g bN .nil (passes_call tk (fun _ _ σ _ h => h σ)) (pa_cons (pe_ix (r := rIxT K) ix_tup (pe_ix (r := rIxL K) ix_list (pv 0) (pe_un un_neg pe_int) (fun _ _ => rfl)) pe_int (fun _ _ => rfl)) (pa_cons (pe_ix (r := rIxT K) ix_tup (pe_ix (r := rIxL K) ix_list (pv 0) (pe_un un_neg pe_int) (fun _ _ => rfl)) pe_int (fun _ _ => rfl)) pa_nil)))) (by exact (pe_make TW.made GW hr (by rfl) TW.g bW .nil (passes_call tk (fun _ _ σ _ h => h σ)) (pa_cons (pv 0) pa_nil)))))
          (pss_one (ps_ret (pe_cmpR op_notN (pv 2) pe_non (nomark _)))))
        (MixOk.bare (c := .ref CB) (ts := fun _ _ _ => tRet (tC (.bl false))) ⟨rfl, by decide, Or.inl TB.g⟩ (fun a oe cls d pn hz hf => pss_one (ps_ret pe_bl)) .nil)), ?_⟩
    have yes : (∀ r ∈ rs, goodR r.1 r.2) → ∀ (x : Addr) (H' : Hp), Same H H' → Q (.bl (!decide (V.ref x = V.non))) H' := fun hg x H' sm => kk _ H' ⟨fun _ => hg, fun _ => by rw [decide_eq_false (fun z => by cases z)]; rfl⟩ sm
    have no : ¬ (∀ r ∈ rs, goodR r.1 r.2) → ∀ H', Same H H' → Q (.bl false) H' := fun hg H' sm => kk _ H' ⟨fun z => (by cases z), fun z => absurd z hg⟩ sm
    refine ⟨_, rfl, rfl, _, rfl, ?_⟩
    by_cases c0 : way = 0
    · subst c0
      refine ifT0 (decide_eq_true rfl) ?_
      have lr := hw rfl
      obtain ⟨r, rfl⟩ : ∃ r, rs = [r] := by
        match rs, lr with
        | [r], _ => exact ⟨r, rfl⟩
      obtain ⟨t, rfl, ht⟩ : ∃ t, ts = [t] ∧ H t = some (.tup [.int r.1, .int r.2]) := by
        cases hts with
        | cons q z => cases z; exact ⟨_, rfl, q⟩
      refine ⟨_, rfl, 1, rfl, rl, _, -1, .ref t, rfl, rfl, SqL.of hrl, rfl, t, _, 0, .int r.1, rfl, rfl, SqT.of ht, rfl, _, rfl, 1, rfl, rl, _, -1, .ref t, rfl, rfl, SqL.of hrl, rfl, t, _, 1, .int r.2, rfl, rfl, SqT.of ht, rfl, fun x dx nx ndx ne => ?_⟩
      by_cases hg : goodR r.1 r.2
      · refine .inl ⟨x, dx, r.1, r.2, rfl, upd_same, hg, fun d H2 nd k2 hN => ⟨rfl, ?_⟩⟩
        exact ⟨_, rfl, rfl, yes (fun r' m => by rw [List.mem_singleton.mp m]; exact hg) x H2 (made_same nx ndx (fun b o e nb => k2 b o e (by simpa using nb)))⟩
      · refine .inr ⟨x, dx, r.1, r.2, rfl, upd_same, hg, fun d H2 nd oa hd σ' => ?_⟩
        exact ⟨true, eBB, fun _ a na => no (fun z => hg (z r (by simp))) H2 (made_same nx ndx oa), fun z => by cases z⟩
    · refine ifF0 (decide_eq_false (fun z => c0 (V.int.inj z))) ?_
      refine ⟨_, rfl, fun x dx nx ndx ne => ?_⟩
      have up : ∀ {b o}, H b = some o → upd (upd H dx (.own x)) x (.ins c.W dx []) b = some o := fun e => by rw [upd_ne (ne_of_none e nx), upd_ne (ne_of_none e ndx)]; exact e
      have hR : RangesAt (upd (upd H dx (.own x)) x (.ins c.W dx [])) rl rs := ⟨ts, up hrl, paired_mono (fun t r z => up z) hts⟩
      by_cases hg : ∀ r ∈ rs, goodR r.1 r.2
      · refine .inl ⟨x, dx, rl, rs, rfl, upd_same, hR, hg, by omega, fun z => absurd z (by omega), fun _ a H2 ea oa F2 n1 n2 => ⟨rfl, ?_⟩⟩
        exact ⟨_, rfl, rfl, yes hg x H2 (made_same nx ndx oa)⟩
      · obtain ⟨r, mr, hb⟩ : ∃ r ∈ rs, ¬ goodR r.1 r.2 := by
          apply Classical.byContradiction
          intro z
          exact hg fun r m => Classical.byContradiction fun y => z ⟨r, m, y⟩
        refine .inr ⟨x, dx, rl, rs, rfl, upd_same, hR, l1, l8, ⟨r, mr, hb⟩, fun d H2 nd oa hd σ' => ?_⟩
        exact ⟨true, eBB, fun _ a na => no hg H2 (made_same nx ndx oa), fun z => by cases z⟩
theorem scLaw : FnScope ["_law_script", "_law_box_here", "_law_turn", "_law_low", "_law_high", "_law_bad_here", "_law_ranges", "_law_k", "_law_handed"] ["_law_script"] (defScope sLaw) := ⟨rfl, rfl, rfl, by decide +kernel, rfl, by decide +kernel, by decide +kernel⟩
theorem ok_law {f : Addr} {fd : FuncData} {tN : Tok} (F : Fun K "law" "law" sLaw f fd) (T : BT mg) (gMN : mg "MOST_NUMBER" = some (.int 9999 tN)) {f_law_box : Addr} {fd_law_box : FuncData} (c_law_box : Cal P w K mg base 12 "_law_box" f_law_box fd_law_box ["_law_script"] (spBox K)) {f_law_take : Addr} {fd_law_take : FuncData} (c_law_take : Cal P w K mg base 12 "_law_take" f_law_take fd_law_take ["_law_box_here", "_law_sides"] spTake) {f_law_wild : Addr} {fd_law_wild : FuncData} (c_law_wild : Cal P w K mg base 12 "_law_wild" f_law_wild fd_law_wild ["_law_box_here"] spWild) {f_law_bad : Addr} {fd_law_bad : FuncData} (c_law_bad : Cal P w K mg base 12 "_law_bad" f_law_bad fd_law_bad ["_law_low", "_law_high"] spBad) {f_law_same : Addr} {fd_law_same : FuncData} (c_law_same : Cal P w K mg base 12 "_law_same" f_law_same fd_law_same ["_law_found", "_law_due"] (spSame 12)) {f_law_made : Addr} {fd_law_made : FuncData} (c_law_made : Cal P w K mg base 12 "_law_made" f_law_made fd_law_made ["_law_ranges", "_law_way"] spMade) : FnOk P w K mg base CX0 13 f fd ["_law_script"] (spLaw K) := by
  refine F.ok scLaw (fun vs H Q E h => ?_) (fun cdv A outer s H vs Q E hr h => ?_)
  · obtain ⟨a, ns, rfl, _⟩ := h
    rfl
  · obtain ⟨a, ns, rfl, hS, hlen, kk⟩ := h
    refine ⟨_, (pss_cons (ps_set (i := 1) scLaw.nd rfl (.inr rfl) (pe_call c_law_box.ok hr (by rfl) c_law_box.g c_law_box.kp c_law_box.b .nil pass0 (pa_cons (pv 0) pa_nil)))
      (pss_cons (ps_for PassesOwn.never rfl (pi_range1 (by rfl) T.range (pa_cons pe_int pa_nil)) (pg_name (i := 2) scLaw.nd rfl (Or.inl rfl))
        (pss_cons (ps_set (i := 3) scLaw.nd rfl (.inl rfl) (pe_ix (r := rIxL K) ix_list (pe_lst (pa_cons pe_int (pa_cons pe_int (pa_cons pe_int (pa_cons pe_int (pa_cons pe_int (pa_cons pe_int (pa_cons pe_int (pa_cons (pe_call c_law_wild.ok hr (by rfl) c_law_wild.g c_law_wild.kp c_law_wild.b .nil pass0 (pa_cons (pv 1) pa_nil)) pa_nil))))))))) (pe_call c_law_take.ok hr (by rfl) c_law_take.g c_law_take.kp c_law_take.b .nil pass0 (pa_cons (pv 1) (pa_cons pe_int pa_nil))) (fun _ _ => rfl)))
        (pss_cons (ps_set (i := 4) scLaw.nd rfl (.inl rfl) (pe_ix (r := rIxL K) ix_list (pe_lst (pa_cons (pe_op op_sub (pv 3) pe_int) (pa_cons (pv 3) (pa_cons (pe_op op_add (pv 3) pe_int) (pa_cons (pe_op op_add (pv 3) pe_int) (pa_cons (pe_op op_add (pv 3) pe_int) (pa_cons pe_int (pa_cons pe_int (pa_cons (pe_call c_law_wild.ok hr (by rfl) c_law_wild.g c_law_wild.kp c_law_wild.b .nil pass0 (pa_cons (pv 1) pa_nil)) pa_nil))))))))) (pe_call c_law_take.ok hr (by rfl) c_law_take.g c_law_take.kp c_law_take.b .nil pass0 (pa_cons (pv 1) (pa_cons pe_int pa_nil))) (fun _ _ => rfl)))
        (pss_cons (ps_set (i := 5) scLaw.nd rfl (.inl rfl) (pe_call c_law_bad.ok hr (by rfl) c_law_bad.g c_law_bad.kp c_law_bad.b .nil pass0 (pa_cons (pv 3) (pa_cons (pv 4) pa_nil))))
        (pss_cons (ps_if (pt_not (pt_val (pe_call c_law_same.ok hr (by rfl) c_law_same.g c_law_same.kp c_law_same.b .nil pass0 (pa_cons (pe_call c_law_made.ok hr (by rfl) c_law_made.g c_law_made.kp c_law_made.b .nil pass0 (pa_cons (pe_lst (pa_cons (pe_tup (pa_cons (pv 3) (pa_cons (pv 4) pa_nil))) pa_nil)) (pa_cons pe_int pa_nil))) (pa_cons (pe_not (pv 5)) pa_nil)))))
          (pss_one (ps_ret pe_bl))
          pss_nil)
        (pss_cons (ps_setLc (i := 6) (own := [("_law_k", 7)]) (g := (gName 7)) (tt := tYes) rfl scLaw.nd rfl rfl (sw_true rfl rfl rfl (by decide +kernel)) (by exact (pi_range1 (by rfl) T.range (pa_cons (pe_call c_law_take.ok hr (by rfl) c_law_take.g c_law_take.kp c_law_take.b .nil pass0 (pa_cons (pv 1) (pa_cons pe_int pa_nil))) pa_nil))) (blkOk_by (own := [("_law_k", 7)]) (N := ["_law_script", "_law_box_here", "_law_turn", "_law_low", "_law_high", "_law_bad_here", "_law_ranges", "_law_k", "_law_handed"]) (sc := (defScope sLaw)) (by decide +kernel)) (fun _ _ _ _ _ => by exact (pg_name (i := 7) scLaw.nd rfl (Or.inl rfl))) (fun _ _ _ _ _ => by exact pts_nil) (fun _ _ _ _ _ => by exact (pe_tup (pa_cons (pe_op op_add pe_int (pv 7)) (pa_cons (pe_op op_add (pe_op op_add pe_int (pv 7)) (pe_call c_law_take.ok hr (by rfl) c_law_take.g c_law_take.kp c_law_take.b .nil pass0 (pa_cons (pv 1) (pa_cons pe_int pa_nil)))) pa_nil)))))
        (pss_cons (ps_expr (pe_bm PySem.F.plainAttrs_list PySem.F.slot_list_insert PySem.F.type_list_insert mt_insert (pv 6) (pa_cons (pe_call c_law_take.ok hr (by rfl) c_law_take.g c_law_take.kp c_law_take.b .nil pass0 (pa_cons (pv 1) (pa_cons (pe_op op_add (pe_callB call_len_seq (by rfl) T.len PySem.boot_len (pa_cons (pv 6) pa_nil)) pe_int) pa_nil))) (pa_cons (pe_tup (pa_cons (pv 3) (pa_cons (pv 4) pa_nil))) pa_nil))))
        (pss_cons (ps_set (i := 8) scLaw.nd rfl (.inl rfl) (pe_callTy call_list_of (by rfl) T.list (by decide +kernel) (pa_cons (pv 6) pa_nil)))
        (pss_one (ps_if (PW.pt (pw_or (pt_not (pt_val (pe_call c_law_same.ok hr (by rfl) c_law_same.g c_law_same.kp c_law_same.b .nil pass0 (pa_cons (pe_call c_law_made.ok hr (by rfl) c_law_made.g c_law_made.kp c_law_made.b .nil pass0 (pa_cons (pv 8) (pa_cons pe_int pa_nil))) (pa_cons (pe_not (pv 5)) pa_nil))))) (pw_or1 (pt_cmpR (r := rNeD K) (op_neD hr.units) (pv 8) (pv 6) (nomark _)))))
          (pss_one (ps_ret pe_bl))
          pss_nil))))))))))
      (pss_one (ps_ret (pe_call c_law_same.ok hr (by rfl) c_law_same.g c_law_same.kp c_law_same.b .nil pass0 (pa_cons (pe_glob (v := .int 9999) (by rfl) gMN ⟨_, rfl⟩) (pa_cons pe_int pa_nil))))))), ?_⟩
    refine ⟨_, rfl, a, ns, rfl, hS, hlen, fun p q H1 np nq B1 s1 => ?_⟩
    refine ⟨8, rfl, by decide, by decide, for_range (n := 8) (fun i σ H' => (∃ y2 y3 y4 y5 y6 y7 y8, σ = [some (.ref a), some (.ref p), y2, y3, y4, y5, y6, y7, y8]) ∧ BoxAt H' p q) ⟨⟨_, _, _, _, _, _, _, rfl⟩, B1⟩ ?_ ?_⟩
    · rintro i σ H2 hi ⟨⟨y2, y3, y4, y5, y6, y7, y8, rfl⟩, B2⟩
      refine ⟨_, rfl, p, q, rfl, B2, fun wz H3 hw B3 b3 => ⟨(by show 8 ≤ sizeLine; decide), fun l nl => ?_⟩⟩
      obtain ⟨o3, e3⟩ := B3.p_some
      have nlp : l ≠ p := Ne.symm (ne_of_none e3 nl)
      have s4 := same_upd (o := .lst [.int 0, .int 1, .int 2, .int 9936, .int 9937, .int 9999, .int 10000, .int wz]) nl
      refine ⟨_, rfl, p, q, 8, rfl, B3.same s4, by omega, by omega, fun z H5 hz0 hz1 B5 b5 => ?_⟩
      have hl5 := b5 _ _ (upd_same (H := H3) (a := l) (o := .lst [.int 0, .int 1, .int 2, .int 9936, .int 9937, .int 9999, .int 10000, .int wz])) nlp
      obtain ⟨lo, hlo⟩ := low_of wz z hz0 hz1 0 1 2 9936 9937 9999 10000
      refine ⟨l, _, z, .int lo, rfl, rfl, SqL.of hl5, hlo, ?_⟩
      refine ⟨_, rfl, _, _, rfl, rfl, _, rfl, _, rfl, _, _, rfl, rfl, _, rfl, _, _, rfl, rfl, _, rfl, _, _, rfl, rfl, _, rfl, p, q, rfl, B5, fun wz2 H6 hw2 B6 b6 => ⟨(by show 8 ≤ sizeLine; decide), fun l2 nl2 => ?_⟩⟩
      obtain ⟨o6, e6⟩ := B6.p_some
      have nlp2 : l2 ≠ p := Ne.symm (ne_of_none e6 nl2)
      have s7 := same_upd (o := .lst [.int (lo - 1), .int lo, .int (lo + 62), .int (lo + 63), .int (lo + 64), .int 9999, .int 10000, .int wz2]) nl2
      refine ⟨_, rfl, p, q, 8, rfl, B6.same s7, by omega, by omega, fun z2 H8 hy0 hy1 B8 b8 => ?_⟩
      have hl8 := b8 _ _ (upd_same (H := H6) (a := l2) (o := .lst [.int (lo - 1), .int lo, .int (lo + 62), .int (lo + 63), .int (lo + 64), .int 9999, .int 10000, .int wz2])) nlp2
      obtain ⟨hi', hhi⟩ := low_of wz2 z2 hy0 hy1 (lo - 1) lo (lo + 62) (lo + 63) (lo + 64) 9999 10000
      refine ⟨l2, _, z2, .int hi', rfl, rfl, SqL.of hl8, hhi, ?_⟩
      refine ⟨_, rfl, _, rfl, lo, hi', rfl, fun b hb => ?_⟩
      -- one range
      refine ⟨_, rfl, _, rfl, (by show 2 ≤ sizeLine; decide), fun t nt => ⟨(by show 1 ≤ sizeLine; decide), fun rl nrl => ?_⟩⟩
      have s9 := same_upd (o := .tup [.int lo, .int hi']) nt
      have s10 := same_upd (o := .lst [.ref t]) nrl
      have ht10 := s10 _ _ (upd_same (H := H8) (a := t) (o := .tup [.int lo, .int hi']))
      refine ⟨rl, [(lo, hi')], 0, rfl, ⟨[t], upd_same, .cons ht10 .nil⟩, (by show 1 ≤ 1; decide), (by show 1 ≤ 8; decide), fun _ => rfl, fun g H11 hg s11 => ?_⟩
      have eg : g = !b := not_of (hg.trans (by simp)) hb
      subst eg
      refine ⟨_, rfl, _, rfl, _, _, rfl, .inl ⟨rfl, rfl⟩, fun H12 s12 => ?_⟩
      refine ⟨_, rfl, iteF ?_⟩
      have B12 := (((B8.same s9).same s10).same s11).same s12
      clear s9 s10 s11 s12 ht10
      -- ranges round it
      refine ⟨_, rfl, p, q, 8, rfl, B12, by omega, by omega, fun z3 H13 hx0 hx1 B13 b13 => ?_⟩
      obtain ⟨n, rfl⟩ : ∃ n : Nat, z3 = (n : Nat) := ⟨z3.toNat, by omega⟩
      refine ⟨n, rfl, by omega, by omega, fun D nD => ?_⟩
      obtain ⟨o13, e13⟩ := B13.p_some
      obtain ⟨oq13, eq13⟩ := B13.q_some
      have nDp : D ≠ p := Ne.symm (ne_of_none e13 nD)
      have nDq : D ≠ q := Ne.symm (ne_of_none eq13 nD)
      refine lc_range (lo := 0) (n := n) (fun j Hj => BoxAt Hj p q ∧ ∃ (ts : List Addr) (rs : List (Int × Int)), rs.length = j ∧ Hj D = some (.lst (ts.map V.ref)) ∧ Paired (fun t (r : Int × Int) => Hj t = some (.tup [.int r.1, .int r.2])) ts rs ∧ ∀ r ∈ rs, goodR r.1 r.2)
        ⟨B13.same (same_upd nD), [], [], rfl, upd_same, .nil, fun r m => by cases m⟩ ?_ ?_
      · rintro j Hj hj ⟨Bj, ts, rs, lrs, hD, hts, hgs⟩
        refine ⟨rfl, ?_⟩
        refine ⟨_, rfl, _, _, rfl, rfl, _, rfl, _, _, rfl, rfl, _, rfl, p, q, 64, rfl, Bj, by omega, by omega, fun z4 H14 hv0 hv1 B14 b14 => ⟨_, _, rfl, rfl, (by show 2 ≤ sizeLine; decide), fun t4 nt4 => ?_⟩⟩
        have s15 := same_upd (o := .tup [.int (1 + (0 + (j : Int))), .int (1 + (0 + (j : Int)) + z4)]) nt4
        have hD14 := b14 _ _ hD nDp
        have hts14 := paired_mono (fun t (r : Int × Int) (z : Hj t = some (.tup [V.int r.1, V.int r.2])) => b14 _ _ z (box_tup Bj z)) hts
        have lts := paired_len hts
        refine ⟨_, s15 _ _ hD14, by rw [List.length_map]; exact small1000 (by omega), (B14.same s15).put nDp nDq, ts ++ [t4], rs ++ [(1 + (0 + (j : Int)), 1 + (0 + (j : Int)) + z4)], by rw [List.length_append, lrs]; rfl, by rw [upd_same, List.map_append]; rfl, ?_, ?_⟩
        · have up : ∀ {y xs}, upd H14 t4 (.tup [.int (1 + (0 + (j : Int))), .int (1 + (0 + (j : Int)) + z4)]) y = some (.tup xs) → ∀ o, upd (upd H14 t4 (.tup [.int (1 + (0 + (j : Int))), .int (1 + (0 + (j : Int)) + z4)])) D (.lst o) y = some (.tup xs) := fun e o => by
            rw [upd_ne (fun q => by rw [q, s15 _ _ hD14] at e; cases e)]
            exact e
          exact paired_append (paired_mono (fun t r z => up (s15 _ _ z) _) hts14) (.cons (up upd_same _) .nil)
        · intro r m
          rcases List.mem_append.mp m with m | m
          · exact hgs r m
          · rw [List.mem_singleton.mp m]
            show 1 ≤ 1 + (0 + (j : Int)) ∧ _ ≤ 1 + (0 + (j : Int)) + z4 ∧ 1 + (0 + (j : Int)) + z4 ≤ 1 + (0 + (j : Int)) + 63 ∧ 1 + (0 + (j : Int)) + z4 ≤ 9999
            omega
      · rintro H16 ⟨B16, ts, rs, lrs, hD, hts, hgs⟩
        have lts := paired_len hts
        refine ⟨_, rfl, .inl ⟨rfl, _, SqL.of hD⟩, _, rfl, _, rfl, D, _, rfl, .inl (SqL.of hD), _, _, rfl, rfl, p, q, _, rfl, B16, by omega, by rw [List.length_map]; omega, fun z5 H17 hu0 hu1 B17 b17 => ?_⟩
        rw [List.length_map] at hu1
        have hD17 := b17 _ _ hD nDp
        have hts17 := paired_mono (fun t (r : Int × Int) (z : H16 t = some (.tup [V.int r.1, V.int r.2])) => b17 _ _ z (box_tup B16 z)) hts
        refine ⟨_, rfl, _, rfl, (by show 2 ≤ sizeLine; decide), fun t5 nt5 => ?_⟩
        have s18 := same_upd (o := .tup [.int lo, .int hi']) nt5
        have hD18 := s18 _ _ hD17
        refine ⟨D, _, z5, .ref t5, rfl, rfl, hD18, by rw [List.length_map]; exact small1000 (by omega), hu0, by omega, ?_⟩
        have B19 : BoxAt (upd (upd H17 t5 (.tup [.int lo, .int hi'])) D (.lst ((ts.map V.ref).take z5.toNat ++ [.ref t5] ++ (ts.map V.ref).drop z5.toNat))) p q := (B17.same s18).put nDp nDq
        have up : ∀ {y xs o}, upd H17 t5 (.tup [.int lo, .int hi']) y = some (.tup xs) → upd (upd H17 t5 (.tup [.int lo, .int hi'])) D (.lst o) y = some (.tup xs) := fun {y xs o} e => by
          rw [upd_ne (fun q => by rw [q, hD18] at e; cases e)]
          exact e
        have hR : RangesAt (upd (upd H17 t5 (.tup [.int lo, .int hi'])) D (.lst ((ts.map V.ref).take z5.toNat ++ [.ref t5] ++ (ts.map V.ref).drop z5.toNat))) D (rs.take z5.toNat ++ [(lo, hi')] ++ rs.drop z5.toNat) := by
          refine ⟨ts.take z5.toNat ++ [t5] ++ ts.drop z5.toNat, by rw [upd_same, List.map_append, List.map_append, List.map_take, List.map_drop]; rfl, ?_⟩
          exact paired_ins (R := fun t (r : Int × Int) => upd (upd H17 t5 (.tup [.int lo, .int hi'])) D (.lst ((ts.map V.ref).take z5.toNat ++ [.ref t5] ++ (ts.map V.ref).drop z5.toNat)) t = some (.tup [.int r.1, .int r.2])) (y := (lo, hi')) (up upd_same) (paired_mono (fun t r z => up (s18 _ _ z)) hts17) _
        have ins := ins_good (lo := lo) (hi := hi') z5.toNat hgs
        have lrs' : (rs.take z5.toNat ++ [(lo, hi')] ++ rs.drop z5.toNat).length = n + 1 := by
          rw [List.length_append, List.length_append, List.length_take, List.length_drop, lrs]
          show min z5.toNat n + 1 + (n - z5.toNat) = n + 1
          omega
        generalize upd (upd H17 t5 (.tup [.int lo, .int hi'])) D (.lst ((ts.map V.ref).take z5.toNat ++ [.ref t5] ++ (ts.map V.ref).drop z5.toNat)) = H19 at *
        generalize rs.take z5.toNat ++ [(lo, hi')] ++ rs.drop z5.toNat = rs' at *
        obtain ⟨ts', hD19, hts19⟩ := hR
        refine ⟨_, rfl, D, _, rfl, .inl (SqL.of hD19), fun hd nhd => ?_⟩
        have s20 := same_upd (o := .lst (ts'.map V.ref)) nhd
        have hts20 := paired_mono (fun t (r : Int × Int) (z : H19 t = some (.tup [V.int r.1, V.int r.2])) => s20 _ _ z) hts19
        refine ⟨_, rfl, hd, rs', 1, rfl, ⟨ts', upd_same, hts20⟩, by omega, by omega, fun z => absurd z (by decide), fun g H21 hg s21 => ?_⟩
        have eg : g = !b := not_of (hg.trans ins) hb
        subst eg
        refine ⟨_, rfl, _, rfl, _, _, rfl, .inl ⟨rfl, rfl⟩, fun H22 s22 => ?_⟩
        refine ⟨_, rfl, iteF ?_⟩
        have R1 : RangesAt H22 hd rs' := RangesAt.same (RangesAt.same ⟨ts', upd_same, hts20⟩ s21) s22
        have R2 : RangesAt H22 D rs' := RangesAt.same (RangesAt.same (RangesAt.same ⟨ts', hD19, hts19⟩ s20) s21) s22
        refine ⟨_, rfl, _, rfl, _, _, dp_rng R1, dp_rng R2, shaped_rng _, shaped_rng _, _, rfl, ?_⟩
        rw [eqv_rng]
        refine iteF ?_
        exact ⟨⟨_, _, _, _, _, _, _, rfl⟩, ((B19.same s20).same s21).same s22⟩
    · rintro σ H2 ⟨⟨y2, y3, y4, y5, y6, y7, y8, rfl⟩, B2⟩
      exact ⟨_, _, rfl, .inl ⟨rfl, rfl⟩, fun H' s => kk H'⟩
end
end K

namespace K
open PySem PySem.Spec PyProof.Rows L2
theorem all_mk {l : PySem.W.OpenLaw} {w : World} {K : PySem.W.Frag} {h : Heap} {mg : Str → Option Value} {fa f0 f1 f2 f3 f4 f5 f6 f7 f8 CS fS TD CTooMany fTooMany NTooMany CNoNumber fNoNumber NNoNumber CBadRange fBadRange NBadRange CNumbers CSlip CHouse CWeb fNumbersinit fNumberstake fSlipinit fHouseinit fWebinit : Addr} (X : K.In h) (G : h.Ns mainGlobals mg) (hfa : mg "law" = some (.ref fa))
    {od0 an0 od1 an1 od2 an2 od3 an3 od4 an4 od5 an5 od6 an6 od7 an7 od8 an8 odS anS odT odTooMany anTooMany ddTooMany odNoNumber anNoNumber ddNoNumber odBadRange anBadRange ddBadRange odNumbersinit anNumbersinit odNumberstake anNumberstake odSlipinit anSlipinit odHouseinit anHouseinit odWebinit anWebinit : Option Addr} {sl0 sl1 sl2 sl3 sl4 sl5 sl6 sl7 sl8 slS slT slTooMany slNoNumber slBadRange slNumbersinit slNumberstake slSlipinit slHouseinit slWebinit : Array (Option Value)} {oc0 kV0 dc0 pm0 cd0 ct0 oc1 kV1 dc1 pm1 cd1 ct1 oc2 kV2 dc2 pm2 cd2 ct2 oc3 kV3 dc3 pm3 cd3 ct3 oc4 kV4 dc4 pm4 cd4 ct4 oc5 kV5 dc5 pm5 cd5 ct5 oc6 kV6 dc6 pm6 cd6 ct6 oc7 kV7 dc7 pm7 cd7 ct7 oc8 kV8 dc8 pm8 cd8 ct8 ocS kVS dcS pmS cdS ctS ocT ocTooMany kVTooMany dcTooMany pmTooMany cdTooMany ctTooMany ocNoNumber kVNoNumber dcNoNumber pmNoNumber cdNoNumber ctNoNumber ocBadRange kVBadRange dcBadRange pmBadRange cdBadRange ctBadRange ocNumbersinit kVNumbersinit dcNumbersinit pmNumbersinit cdNumbersinit ctNumbersinit ocNumberstake kVNumberstake dcNumberstake pmNumberstake cdNumberstake ctNumberstake ocSlipinit kVSlipinit dcSlipinit pmSlipinit cdSlipinit ctSlipinit ocHouseinit kVHouseinit dcHouseinit pmHouseinit cdHouseinit ctHouseinit ocWebinit kVWebinit dcWebinit pmWebinit cdWebinit ctWebinit : Value} {tk1 tk2 tkMOST_HOUSES tkMOST_ABOVE tkMOST_NUMBER : Tok} {nT : Nat} 
    {nmTooMany qnTooMany nmNoNumber qnNoNumber nmBadRange qnBadRange : Str} {bsTooMany bmTooMany subTooMany bsNoNumber bmNoNumber subNoNumber bsBadRange bmBadRange subBadRange : List Value} {snTooMany snNoNumber snBadRange : List Str} {abTooMany abNoNumber abBadRange : Bool} {colTooMany colNoNumber colBadRange : Option Bool} {p0TooMany p1TooMany p2TooMany p3TooMany p5TooMany p0NoNumber p1NoNumber p2NoNumber p3NoNumber p5NoNumber p0BadRange p1BadRange p2BadRange p3BadRange p5BadRange : Option Value}
    (a0 : PySem.W.nsIn K mainGlobals "_law_box" = some (some (.ref f0)))
    (l0 : K.lookup f0 = some ⟨oc0, od0, .func (PySem.W.fnOf "_law_box" "_law_box" (defArgs sBox) (defBody sBox) (defScope sBox) .none kV0 dc0 pm0 an0 cd0 ct0), sl0⟩)
    (c0 : PySem.W.codeIn K cd0 "_law_box" = true)
    (k0 : PySem.W.keepIn K (.ref f0) = true)
    (a1 : PySem.W.nsIn K mainGlobals "_law_take" = some (some (.ref f1)))
    (l1 : K.lookup f1 = some ⟨oc1, od1, .func (PySem.W.fnOf "_law_take" "_law_take" (defArgs sTake) (defBody sTake) (defScope sTake) .none kV1 dc1 pm1 an1 cd1 ct1), sl1⟩)
    (c1 : PySem.W.codeIn K cd1 "_law_take" = true)
    (k1 : PySem.W.keepIn K (.ref f1) = true)
    (a2 : PySem.W.nsIn K mainGlobals "_law_same" = some (some (.ref f2)))
    (l2 : K.lookup f2 = some ⟨oc2, od2, .func (PySem.W.fnOf "_law_same" "_law_same" (defArgs sSame) (defBody sSame) (defScope sSame) .none kV2 dc2 pm2 an2 cd2 ct2), sl2⟩)
    (c2 : PySem.W.codeIn K cd2 "_law_same" = true)
    (k2 : PySem.W.keepIn K (.ref f2) = true)
    (a3 : PySem.W.nsIn K mainGlobals "_law_wild" = some (some (.ref f3)))
    (l3 : K.lookup f3 = some ⟨oc3, od3, .func (PySem.W.fnOf "_law_wild" "_law_wild" (defArgs sWild) (defBody sWild) (defScope sWild) .none kV3 dc3 pm3 an3 cd3 ct3), sl3⟩)
    (c3 : PySem.W.codeIn K cd3 "_law_wild" = true)
    (k3 : PySem.W.keepIn K (.ref f3) = true)
    (a4 : PySem.W.nsIn K mainGlobals "_law_bad" = some (some (.ref f4)))
    (l4 : K.lookup f4 = some ⟨oc4, od4, .func (PySem.W.fnOf "_law_bad" "_law_bad" (defArgs sBad) (defBody sBad) (defScope sBad) .none kV4 dc4 pm4 an4 cd4 ct4), sl4⟩)
    (c4 : PySem.W.codeIn K cd4 "_law_bad" = true)
    (k4 : PySem.W.keepIn K (.ref f4) = true)
    (a5 : PySem.W.nsIn K mainGlobals "_law_made" = some (some (.ref f5)))
    (l5 : K.lookup f5 = some ⟨oc5, od5, .func (PySem.W.fnOf "_law_made" "_law_made" (defArgs sMade) (defBody sMade) (defScope sMade) .none kV5 dc5 pm5 an5 cd5 ct5), sl5⟩)
    (c5 : PySem.W.codeIn K cd5 "_law_made" = true)
    (k5 : PySem.W.keepIn K (.ref f5) = true)
    (a6 : PySem.W.nsIn K mainGlobals "is_range" = some (some (.ref f6)))
    (l6 : K.lookup f6 = some ⟨oc6, od6, .func (PySem.W.fnOf "is_range" "is_range" (defArgs sIsRange) (defBody sIsRange) (defScope sIsRange) .none kV6 dc6 pm6 an6 cd6 ct6), sl6⟩)
    (c6 : PySem.W.codeIn K cd6 "is_range" = true)
    (k6 : PySem.W.keepIn K (.ref f6) = true)
    (a7 : PySem.W.nsIn K mainGlobals "make_slip" = some (some (.ref f7)))
    (l7 : K.lookup f7 = some ⟨oc7, od7, .func (PySem.W.fnOf "make_slip" "make_slip" (defArgs sMakeSlip) (defBody sMakeSlip) (defScope sMakeSlip) .none kV7 dc7 pm7 an7 cd7 ct7), sl7⟩)
    (c7 : PySem.W.codeIn K cd7 "make_slip" = true)
    (k7 : PySem.W.keepIn K (.ref f7) = true)
    (a8 : PySem.W.nsIn K mainGlobals "law" = some (some (.ref f8)))
    (l8 : K.lookup f8 = some ⟨oc8, od8, .func (PySem.W.fnOf "law" "law" (defArgs sLaw) (defBody sLaw) (defScope sLaw) .none kV8 dc8 pm8 an8 cd8 ct8), sl8⟩)
    (c8 : PySem.W.codeIn K cd8 "law" = true)
    (k8 : PySem.W.keepIn K (.ref f8) = true)
    (aS : PySem.W.nsIn K mainGlobals "SlipError" = some (some (.ref CS)))
    (rd : PySem.W.readsIn K CS (.type "type") = true)
    (rga : PySem.W.specialIn K (.ref CS) "__getattribute__" = some (some (.builtin "type.__getattribute__")))
    (atS : PySem.W.findCls K (.ref CS) (.type "type") "__init__" = some (.val (.ref fS)))
    (lS : K.lookup fS = some ⟨ocS, odS, .func (PySem.W.fnOf "__init__" "SlipError.__init__" (defArgs sSlipI) (defBody sSlipI) (defScope sSlipI) (.ref TD) kVS dcS pmS anS cdS ctS), slS⟩)
    (lT : K.lookup TD = some ⟨ocT, odT, .seq #[.str "sliperror" tk1, .str "refused" tk2] nT, slT⟩)
    (cS : PySem.W.codeIn K cdS "SlipError.__init__" = true)
    (kS : PySem.W.keepIn K (.ref fS) = true)
    (vV : PySem.W.findCls K (.type "ValueError") (.type "type") "__init__" = some (.val (.builtin "ValueError.__init__")))
    (zV : PySem.W.nsIn K mainGlobals "ValueError" = some none)
    (aTooMany : PySem.W.nsIn K mainGlobals "TooMany" = some (some (.ref CTooMany)))
    (xTooMany : K.lookup CTooMany = some (excClassObj nmTooMany qnTooMany CTooMany NTooMany bsTooMany bmTooMany true snTooMany subTooMany abTooMany colTooMany ddTooMany p0TooMany p1TooMany p2TooMany p3TooMany p5TooMany "ValueError.__new__"))
    (rTooMany : PySem.HandSPX.refsVE bmTooMany = true)
    (saTooMany : PySem.W.findIn K (.ref CTooMany) "__setattr__" = some (some (.builtin "object.__setattr__")))
    (exTooMany : PySem.W.subIn K (.ref CTooMany) (.type "BaseException") = some true)
    (tyTooMany : PySem.W.typeIn K (.ref CTooMany) = some (.type "type"))
    (kcTooMany : PySem.W.keepIn K (.ref CTooMany) = true)
    (gaTooMany : PySem.W.findIn K (.ref CTooMany) "__getattribute__" = some (some (.builtin "BaseException.__getattribute__")))
    (ggTooMany : PySem.W.findIn K (.ref CTooMany) "__getattr__" = some none)
    (hdTooMany : PySem.W.hasDictIn K CTooMany = true)
    (iTooMany : PySem.W.findIn K (.ref CTooMany) "__init__" = some (some (.ref fTooMany)))
    (tiTooMany : PySem.W.typeIn K (.ref fTooMany) = some (.type "function"))
    (lTooMany : K.lookup fTooMany = some ⟨ocTooMany, odTooMany, .func (PySem.W.fnOf "__init__" "TooMany.__init__" (defArgs sTooManyI) (defBody sTooManyI) (defScope sTooManyI) .none kVTooMany dcTooMany pmTooMany anTooMany cdTooMany ctTooMany), slTooMany⟩)
    (cTooMany : PySem.W.codeIn K cdTooMany "TooMany.__init__" = true)
    (kfTooMany : PySem.W.keepIn K (.ref fTooMany) = true)
    (wTooMany : PySem.W.findIn K (.ref CTooMany) "word" = some none)
    (flTooManybound : PySem.W.findIn K (.ref CTooMany) "bound" = some none)
    (icTooMany : PySem.W.isClsIn K CTooMany = true)
    (aNoNumber : PySem.W.nsIn K mainGlobals "NoNumber" = some (some (.ref CNoNumber)))
    (xNoNumber : K.lookup CNoNumber = some (excClassObj nmNoNumber qnNoNumber CNoNumber NNoNumber bsNoNumber bmNoNumber true snNoNumber subNoNumber abNoNumber colNoNumber ddNoNumber p0NoNumber p1NoNumber p2NoNumber p3NoNumber p5NoNumber "ValueError.__new__"))
    (rNoNumber : PySem.HandSPX.refsVE bmNoNumber = true)
    (saNoNumber : PySem.W.findIn K (.ref CNoNumber) "__setattr__" = some (some (.builtin "object.__setattr__")))
    (exNoNumber : PySem.W.subIn K (.ref CNoNumber) (.type "BaseException") = some true)
    (tyNoNumber : PySem.W.typeIn K (.ref CNoNumber) = some (.type "type"))
    (kcNoNumber : PySem.W.keepIn K (.ref CNoNumber) = true)
    (gaNoNumber : PySem.W.findIn K (.ref CNoNumber) "__getattribute__" = some (some (.builtin "BaseException.__getattribute__")))
    (ggNoNumber : PySem.W.findIn K (.ref CNoNumber) "__getattr__" = some none)
    (hdNoNumber : PySem.W.hasDictIn K CNoNumber = true)
    (iNoNumber : PySem.W.findIn K (.ref CNoNumber) "__init__" = some (some (.ref fNoNumber)))
    (tiNoNumber : PySem.W.typeIn K (.ref fNoNumber) = some (.type "function"))
    (lNoNumber : K.lookup fNoNumber = some ⟨ocNoNumber, odNoNumber, .func (PySem.W.fnOf "__init__" "NoNumber.__init__" (defArgs sNoNumberI) (defBody sNoNumberI) (defScope sNoNumberI) .none kVNoNumber dcNoNumber pmNoNumber anNoNumber cdNoNumber ctNoNumber), slNoNumber⟩)
    (cNoNumber : PySem.W.codeIn K cdNoNumber "NoNumber.__init__" = true)
    (kfNoNumber : PySem.W.keepIn K (.ref fNoNumber) = true)
    (wNoNumber : PySem.W.findIn K (.ref CNoNumber) "word" = some none)
    (icNoNumber : PySem.W.isClsIn K CNoNumber = true)
    (aBadRange : PySem.W.nsIn K mainGlobals "BadRange" = some (some (.ref CBadRange)))
    (xBadRange : K.lookup CBadRange = some (excClassObj nmBadRange qnBadRange CBadRange NBadRange bsBadRange bmBadRange true snBadRange subBadRange abBadRange colBadRange ddBadRange p0BadRange p1BadRange p2BadRange p3BadRange p5BadRange "ValueError.__new__"))
    (rBadRange : PySem.HandSPX.refsVE bmBadRange = true)
    (saBadRange : PySem.W.findIn K (.ref CBadRange) "__setattr__" = some (some (.builtin "object.__setattr__")))
    (exBadRange : PySem.W.subIn K (.ref CBadRange) (.type "BaseException") = some true)
    (tyBadRange : PySem.W.typeIn K (.ref CBadRange) = some (.type "type"))
    (kcBadRange : PySem.W.keepIn K (.ref CBadRange) = true)
    (gaBadRange : PySem.W.findIn K (.ref CBadRange) "__getattribute__" = some (some (.builtin "BaseException.__getattribute__")))
    (ggBadRange : PySem.W.findIn K (.ref CBadRange) "__getattr__" = some none)
    (hdBadRange : PySem.W.hasDictIn K CBadRange = true)
    (iBadRange : PySem.W.findIn K (.ref CBadRange) "__init__" = some (some (.ref fBadRange)))
    (tiBadRange : PySem.W.typeIn K (.ref fBadRange) = some (.type "function"))
    (lBadRange : K.lookup fBadRange = some ⟨ocBadRange, odBadRange, .func (PySem.W.fnOf "__init__" "BadRange.__init__" (defArgs sBadRangeI) (defBody sBadRangeI) (defScope sBadRangeI) .none kVBadRange dcBadRange pmBadRange anBadRange cdBadRange ctBadRange), slBadRange⟩)
    (cBadRange : PySem.W.codeIn K cdBadRange "BadRange.__init__" = true)
    (kfBadRange : PySem.W.keepIn K (.ref fBadRange) = true)
    (wBadRange : PySem.W.findIn K (.ref CBadRange) "word" = some none)
    (icBadRange : PySem.W.isClsIn K CBadRange = true)
    (aCNumbers : PySem.W.nsIn K mainGlobals "Numbers" = some (some (.ref CNumbers)))
    (pgNumbers : PySem.W.plainGet K CNumbers Str.empty = true)
    (hdcNumbers : PySem.W.hasDictIn K CNumbers = true)
    (poNumbers : PySem.W.plainOver K CNumbers = true)
    (sacNumbers : PySem.W.findIn K (.ref CNumbers) "__setattr__" = some (some (.builtin "object.__setattr__")))
    (mkNumbers : PySem.W.makesIn K CNumbers = true)
    (kpcNumbers : PySem.W.keepIn K (.ref CNumbers) = true)
    (atNumbersinit : PySem.W.findIn K (.ref CNumbers) "__init__" = some (some (.ref fNumbersinit)))
    (fnNumbersinit : PySem.W.isFn K (.ref fNumbersinit) = true)
    (lNumbersinit : K.lookup fNumbersinit = some ⟨ocNumbersinit, odNumbersinit, .func (PySem.W.fnOf "__init__" "Numbers.__init__" (defArgs sNumI) (defBody sNumI) (defScope sNumI) .none kVNumbersinit dcNumbersinit pmNumbersinit anNumbersinit cdNumbersinit ctNumbersinit), slNumbersinit⟩)
    (cNumbersinit : PySem.W.codeIn K cdNumbersinit "Numbers.__init__" = true)
    (kfNumbersinit : PySem.W.keepIn K (.ref fNumbersinit) = true)
    (atNumberstake : PySem.W.findIn K (.ref CNumbers) "take" = some (some (.ref fNumberstake)))
    (fnNumberstake : PySem.W.isFn K (.ref fNumberstake) = true)
    (lNumberstake : K.lookup fNumberstake = some ⟨ocNumberstake, odNumberstake, .func (PySem.W.fnOf "take" "Numbers.take" (defArgs sNumTake) (defBody sNumTake) (defScope sNumTake) .none kVNumberstake dcNumberstake pmNumberstake anNumberstake cdNumberstake ctNumberstake), slNumberstake⟩)
    (cNumberstake : PySem.W.codeIn K cdNumberstake "Numbers.take" = true)
    (kfNumberstake : PySem.W.keepIn K (.ref fNumberstake) = true)
    (naNumberslow : PySem.W.findIn K (.ref CNumbers) "low" = some none)
    (naNumbershigh : PySem.W.findIn K (.ref CNumbers) "high" = some none)
    (naNumbersheld : PySem.W.findIn K (.ref CNumbers) "held" = some none)
    (aCSlip : PySem.W.nsIn K mainGlobals "Slip" = some (some (.ref CSlip)))
    (pgSlip : PySem.W.plainGet K CSlip Str.empty = true)
    (hdcSlip : PySem.W.hasDictIn K CSlip = true)
    (poSlip : PySem.W.plainOver K CSlip = true)
    (sacSlip : PySem.W.findIn K (.ref CSlip) "__setattr__" = some (some (.builtin "object.__setattr__")))
    (mkSlip : PySem.W.makesIn K CSlip = true)
    (kpcSlip : PySem.W.keepIn K (.ref CSlip) = true)
    (atSlipinit : PySem.W.findIn K (.ref CSlip) "__init__" = some (some (.ref fSlipinit)))
    (fnSlipinit : PySem.W.isFn K (.ref fSlipinit) = true)
    (lSlipinit : K.lookup fSlipinit = some ⟨ocSlipinit, odSlipinit, .func (PySem.W.fnOf "__init__" "Slip.__init__" (defArgs sSlpI) (defBody sSlpI) (defScope sSlpI) .none kVSlipinit dcSlipinit pmSlipinit anSlipinit cdSlipinit ctSlipinit), slSlipinit⟩)
    (cSlipinit : PySem.W.codeIn K cdSlipinit "Slip.__init__" = true)
    (kfSlipinit : PySem.W.keepIn K (.ref fSlipinit) = true)
    (naSlipnumber : PySem.W.findIn K (.ref CSlip) "number" = some none)
    (naSlipwhat : PySem.W.findIn K (.ref CSlip) "what" = some none)
    (naSlipout : PySem.W.findIn K (.ref CSlip) "out" = some none)
    (naSlippath : PySem.W.findIn K (.ref CSlip) "path" = some none)
    (naSlipage : PySem.W.findIn K (.ref CSlip) "age" = some none)
    (naSlipmood : PySem.W.findIn K (.ref CSlip) "mood" = some none)
    (naSliptold : PySem.W.findIn K (.ref CSlip) "told" = some none)
    (aCHouse : PySem.W.nsIn K mainGlobals "House" = some (some (.ref CHouse)))
    (pgHouse : PySem.W.plainGet K CHouse Str.empty = true)
    (hdcHouse : PySem.W.hasDictIn K CHouse = true)
    (poHouse : PySem.W.plainOver K CHouse = true)
    (sacHouse : PySem.W.findIn K (.ref CHouse) "__setattr__" = some (some (.builtin "object.__setattr__")))
    (mkHouse : PySem.W.makesIn K CHouse = true)
    (kpcHouse : PySem.W.keepIn K (.ref CHouse) = true)
    (atHouseinit : PySem.W.findIn K (.ref CHouse) "__init__" = some (some (.ref fHouseinit)))
    (fnHouseinit : PySem.W.isFn K (.ref fHouseinit) = true)
    (lHouseinit : K.lookup fHouseinit = some ⟨ocHouseinit, odHouseinit, .func (PySem.W.fnOf "__init__" "House.__init__" (defArgs sHouseI) (defBody sHouseI) (defScope sHouseI) .none kVHouseinit dcHouseinit pmHouseinit anHouseinit cdHouseinit ctHouseinit), slHouseinit⟩)
    (cHouseinit : PySem.W.codeIn K cdHouseinit "House.__init__" = true)
    (kfHouseinit : PySem.W.keepIn K (.ref fHouseinit) = true)
    (naHousename : PySem.W.findIn K (.ref CHouse) "name" = some none)
    (naHousenumbers : PySem.W.findIn K (.ref CHouse) "numbers" = some none)
    (naHousesight : PySem.W.findIn K (.ref CHouse) "sight" = some none)
    (naHousewants : PySem.W.findIn K (.ref CHouse) "wants" = some none)
    (naHousestands : PySem.W.findIn K (.ref CHouse) "stands" = some none)
    (naHousenews : PySem.W.findIn K (.ref CHouse) "news" = some none)
    (naHousequeue : PySem.W.findIn K (.ref CHouse) "queue" = some none)
    (naHousefreed : PySem.W.findIn K (.ref CHouse) "freed" = some none)
    (aCWeb : PySem.W.nsIn K mainGlobals "Web" = some (some (.ref CWeb)))
    (pgWeb : PySem.W.plainGet K CWeb Str.empty = true)
    (hdcWeb : PySem.W.hasDictIn K CWeb = true)
    (poWeb : PySem.W.plainOver K CWeb = true)
    (sacWeb : PySem.W.findIn K (.ref CWeb) "__setattr__" = some (some (.builtin "object.__setattr__")))
    (mkWeb : PySem.W.makesIn K CWeb = true)
    (kpcWeb : PySem.W.keepIn K (.ref CWeb) = true)
    (atWebinit : PySem.W.findIn K (.ref CWeb) "__init__" = some (some (.ref fWebinit)))
    (fnWebinit : PySem.W.isFn K (.ref fWebinit) = true)
    (lWebinit : K.lookup fWebinit = some ⟨ocWebinit, odWebinit, .func (PySem.W.fnOf "__init__" "Web.__init__" (defArgs sW_init) (defBody sW_init) (defScope sW_init) .none kVWebinit dcWebinit pmWebinit anWebinit cdWebinit ctWebinit), slWebinit⟩)
    (cWebinit : PySem.W.codeIn K cdWebinit "Web.__init__" = true)
    (kfWebinit : PySem.W.keepIn K (.ref fWebinit) = true)
    (naWebhomes : PySem.W.findIn K (.ref CWeb) "homes" = some none)
    (naWebbonds : PySem.W.findIn K (.ref CWeb) "bonds" = some none)
    (naWebmail : PySem.W.findIn K (.ref CWeb) "mail" = some none)
    (naWebbores : PySem.W.findIn K (.ref CWeb) "bores" = some none)
    (naWebever : PySem.W.findIn K (.ref CWeb) "ever" = some none)
    (coMOST_HOUSES : PySem.W.nsIn K mainGlobals "MOST_HOUSES" = some (some (.int 8 tkMOST_HOUSES)))
    (coMOST_ABOVE : PySem.W.nsIn K mainGlobals "MOST_ABOVE" = some (some (.int 63 tkMOST_ABOVE)))
    (coMOST_NUMBER : PySem.W.nsIn K mainGlobals "MOST_NUMBER" = some (some (.int 9999 tkMOST_NUMBER)))
    (suBadRangeBadRange : PySem.W.subIn K (.ref CBadRange) (.ref CBadRange) = some true)
    (dWH : CWeb ≠ CHouse)
    (dWN : CWeb ≠ CNumbers)
    (dWS : CWeb ≠ CSlip)
    (zlen : PySem.W.nsIn K mainGlobals "len" = some none)
    (zrange : PySem.W.nsIn K mainGlobals "range" = some none)
    (zlist : PySem.W.nsIn K mainGlobals "list" = some none)
    (ztuple : PySem.W.nsIn K mainGlobals "tuple" = some none)
    (zisinstance : PySem.W.nsIn K mainGlobals "isinstance" = some none)
    (zbool : PySem.W.nsIn K mainGlobals "bool" = some none)
    (zint : PySem.W.nsIn K mainGlobals "int" = some none)
    (zstr : PySem.W.nsIn K mainGlobals "str" = some none)
    (zall : PySem.W.nsIn K mainGlobals "all" = some none)
    (zzip : PySem.W.nsIn K mainGlobals "zip" = some none)
    (zsum : PySem.W.nsIn K mainGlobals "sum" = some none)
    (zmin : PySem.W.nsIn K mainGlobals "min" = some none)
    (zsorted : PySem.W.nsIn K mainGlobals "sorted" = some none)
    (zabs : PySem.W.nsIn K mainGlobals "abs" = some none)
    (zenumerate : PySem.W.nsIn K mainGlobals "enumerate" = some none)
    : ∃ fd : FuncData, (∀ (s : Shared) (v : Value), BindsTo s fd ⟨[v], []⟩ [("_law_script", v)]) ∧ ∀ base : Heap, K.In base → base.Ns mainGlobals mg → FnOk l.prog w K mg base CX0 13 fa fd ["_law_script"] (spLaw K) := by
  have e := hfa.symm.trans (PySem.W.mg_of X G a8)
  cases e
  have T : BT mg := ⟨PySem.W.mg_none_of X G zlen, PySem.W.mg_none_of X G zrange, PySem.W.mg_none_of X G zlist, PySem.W.mg_none_of X G ztuple, PySem.W.mg_none_of X G zisinstance, PySem.W.mg_none_of X G zbool, PySem.W.mg_none_of X G zint, PySem.W.mg_none_of X G zstr, PySem.W.mg_none_of X G zall, PySem.W.mg_none_of X G zzip, PySem.W.mg_none_of X G zsum, PySem.W.mg_none_of X G zmin, PySem.W.mg_none_of X G zsorted, PySem.W.mg_none_of X G zabs, PySem.W.mg_none_of X G zenumerate⟩
  have F_law_box := fun_mk (st := sBox) l0 c0 k0
  have g_law_box := PySem.W.mg_of X G a0
  have b_law_box := F_law_box.binds (ps := ["_law_script"]) fun _ _ _ _ _ _ us hl => match us, hl with | [_], _ => rfl
  have F_law_take := fun_mk (st := sTake) l1 c1 k1
  have g_law_take := PySem.W.mg_of X G a1
  have b_law_take := F_law_take.binds (ps := ["_law_box_here", "_law_sides"]) fun _ _ _ _ _ _ us hl => match us, hl with | [_, _], _ => rfl
  have F_law_same := fun_mk (st := sSame) l2 c2 k2
  have g_law_same := PySem.W.mg_of X G a2
  have b_law_same := F_law_same.binds (ps := ["_law_found", "_law_due"]) fun _ _ _ _ _ _ us hl => match us, hl with | [_, _], _ => rfl
  have F_law_wild := fun_mk (st := sWild) l3 c3 k3
  have g_law_wild := PySem.W.mg_of X G a3
  have b_law_wild := F_law_wild.binds (ps := ["_law_box_here"]) fun _ _ _ _ _ _ us hl => match us, hl with | [_], _ => rfl
  have F_law_bad := fun_mk (st := sBad) l4 c4 k4
  have g_law_bad := PySem.W.mg_of X G a4
  have b_law_bad := F_law_bad.binds (ps := ["_law_low", "_law_high"]) fun _ _ _ _ _ _ us hl => match us, hl with | [_, _], _ => rfl
  have F_law_made := fun_mk (st := sMade) l5 c5 k5
  have g_law_made := PySem.W.mg_of X G a5
  have b_law_made := F_law_made.binds (ps := ["_law_ranges", "_law_way"]) fun _ _ _ _ _ _ us hl => match us, hl with | [_, _], _ => rfl
  have Fis_range := fun_mk (st := sIsRange) l6 c6 k6
  have gis_range := PySem.W.mg_of X G a6
  have bis_range := Fis_range.binds (ps := ["low", "high"]) fun _ _ _ _ _ _ us hl => match us, hl with | [_, _], _ => rfl
  have Fmake_slip := fun_mk (st := sMakeSlip) l7 c7 k7
  have gmake_slip := PySem.W.mg_of X G a7
  have bmake_slip := Fmake_slip.binds (ps := ["web", "home", "what", "out", "path", "holders"]) fun _ _ _ _ _ _ us hl => match us, hl with | [_, _, _, _, _, _], _ => rfl
  have Flaw := fun_mk (st := sLaw) l8 c8 k8
  have glaw := PySem.W.mg_of X G a8
  have blaw := Flaw.binds (ps := ["_law_script"]) fun _ _ _ _ _ _ us hl => match us, hl with | [_], _ => rfl
  have FS : FunD K "__init__" "SlipError.__init__" (defArgs sSlipI) (defBody sSlipI) (defScope sSlipI) [.str "sliperror", .str "refused"] [] fS _ := ⟨⟨_, _, _, _, _, _, _, _, _, _, rfl, lS, cS, .inr ⟨fun z => (by cases z), TD, _, [.str "sliperror" tk1, .str "refused" tk2], nT, rfl, lT, rfl, .cons ⟨_, rfl⟩ (.cons ⟨_, rfl⟩ .nil)⟩, .inl rfl⟩, kS⟩
  have bS : Binds K (PySem.W.fnOf "__init__" "SlipError.__init__" (defArgs sSlipI) (defBody sSlipI) (defScope sSlipI) (.ref TD) kVS dcS pmS anS cdS ctS) ["self", "word", "why"] [] := by
    obtain ⟨ds, hd, hb⟩ := FS.binds1 (ps := ["self", "word", "why"]) 3 2 (fun z => by cases z) rfl (fun T kV doc pm an cdv ct us its hu hi => match us, hu, its, hi with | [_, _, _], _, [_, _], _ => ⟨_, rfl, rfl⟩)
    cases hd
    exact hb
  have TS : SlipT K mg CS fS := ⟨PySem.W.mg_of X G aS, ⟨rd, rga⟩, atS, kS, vV, PySem.W.mg_none_of X G zV⟩
  have FTooMany := fun_mk (st := sTooManyI) lTooMany cTooMany kfTooMany
  have bTooMany := FTooMany.binds (ps := ["self", "bound"]) fun _ _ _ _ _ _ us hl => match us, hl with | [_, _], _ => rfl
  have TTooMany : ExcT K mg "TooMany" CTooMany fTooMany := ⟨PySem.W.mg_of X G aTooMany, ⟨⟨_, _, _, _, _, _, _, _, _, _, _, _, _, _, _, xTooMany, rTooMany⟩, saTooMany, exTooMany, tyTooMany, kcTooMany⟩, ⟨gaTooMany, ggTooMany, exTooMany, hdTooMany⟩, iTooMany, tiTooMany, wTooMany⟩
  have FNoNumber := fun_mk (st := sNoNumberI) lNoNumber cNoNumber kfNoNumber
  have bNoNumber := FNoNumber.binds (ps := ["self"]) fun _ _ _ _ _ _ us hl => match us, hl with | [_], _ => rfl
  have TNoNumber : ExcT K mg "NoNumber" CNoNumber fNoNumber := ⟨PySem.W.mg_of X G aNoNumber, ⟨⟨_, _, _, _, _, _, _, _, _, _, _, _, _, _, _, xNoNumber, rNoNumber⟩, saNoNumber, exNoNumber, tyNoNumber, kcNoNumber⟩, ⟨gaNoNumber, ggNoNumber, exNoNumber, hdNoNumber⟩, iNoNumber, tiNoNumber, wNoNumber⟩
  have FBadRange := fun_mk (st := sBadRangeI) lBadRange cBadRange kfBadRange
  have bBadRange := FBadRange.binds (ps := ["self"]) fun _ _ _ _ _ _ us hl => match us, hl with | [_], _ => rfl
  have TBadRange : ExcT K mg "BadRange" CBadRange fBadRange := ⟨PySem.W.mg_of X G aBadRange, ⟨⟨_, _, _, _, _, _, _, _, _, _, _, _, _, _, _, xBadRange, rBadRange⟩, saBadRange, exBadRange, tyBadRange, kcBadRange⟩, ⟨gaBadRange, ggBadRange, exBadRange, hdBadRange⟩, iBadRange, tiBadRange, wBadRange⟩
  have FNumbersinit := fun_mk (st := sNumI) lNumbersinit cNumbersinit kfNumbersinit
  have bNumbersinit := FNumbersinit.binds (ps := ["self", "low", "high"]) fun _ _ _ _ _ _ us hl => match us, hl with | [_, _, _], _ => rfl
  have MNumbersinit : Meth K CNumbers "__init__" fNumbersinit := ⟨atNumbersinit, fnNumbersinit, kfNumbersinit⟩
  have FNumberstake := fun_mk (st := sNumTake) lNumberstake cNumberstake kfNumberstake
  have bNumberstake := FNumberstake.binds (ps := ["self"]) fun _ _ _ _ _ _ us hl => match us, hl with | [_], _ => rfl
  have MNumberstake : Meth K CNumbers "take" fNumberstake := ⟨atNumberstake, fnNumberstake, kfNumberstake⟩
  have gCNumbers := PySem.W.mg_of X G aCNumbers
  have clNumbers : Cls K CNumbers := ⟨pgNumbers, hdcNumbers, poNumbers, sacNumbers⟩
  have mkNumbers : Mk K CNumbers fNumbersinit := ⟨mkNumbers, atNumbersinit, fnNumbersinit, kpcNumbers⟩
  have FSlipinit := fun_mk (st := sSlpI) lSlipinit cSlipinit kfSlipinit
  have bSlipinit := FSlipinit.binds (ps := ["self", "number", "what", "out", "path", "age"]) fun _ _ _ _ _ _ us hl => match us, hl with | [_, _, _, _, _, _], _ => rfl
  have MSlipinit : Meth K CSlip "__init__" fSlipinit := ⟨atSlipinit, fnSlipinit, kfSlipinit⟩
  have gCSlip := PySem.W.mg_of X G aCSlip
  have clSlip : Cls K CSlip := ⟨pgSlip, hdcSlip, poSlip, sacSlip⟩
  have mkSlip : Mk K CSlip fSlipinit := ⟨mkSlip, atSlipinit, fnSlipinit, kpcSlip⟩
  have FHouseinit := fun_mk (st := sHouseI) lHouseinit cHouseinit kfHouseinit
  have bHouseinit := FHouseinit.binds (ps := ["self", "name", "low", "high", "many"]) fun _ _ _ _ _ _ us hl => match us, hl with | [_, _, _, _, _], _ => rfl
  have MHouseinit : Meth K CHouse "__init__" fHouseinit := ⟨atHouseinit, fnHouseinit, kfHouseinit⟩
  have gCHouse := PySem.W.mg_of X G aCHouse
  have clHouse : Cls K CHouse := ⟨pgHouse, hdcHouse, poHouse, sacHouse⟩
  have mkHouse : Mk K CHouse fHouseinit := ⟨mkHouse, atHouseinit, fnHouseinit, kpcHouse⟩
  have FWebinit := fun_mk (st := sW_init) lWebinit cWebinit kfWebinit
  have bWebinit := FWebinit.binds (ps := ["self", "ranges"]) fun _ _ _ _ _ _ us hl => match us, hl with | [_, _], _ => rfl
  have MWebinit : Meth K CWeb "__init__" fWebinit := ⟨atWebinit, fnWebinit, kfWebinit⟩
  have gCWeb := PySem.W.mg_of X G aCWeb
  have clWeb : Cls K CWeb := ⟨pgWeb, hdcWeb, poWeb, sacWeb⟩
  have mkWeb : Mk K CWeb fWebinit := ⟨mkWeb, atWebinit, fnWebinit, kpcWeb⟩
  have gMOST_HOUSES := PySem.W.mg_of X G coMOST_HOUSES
  have gMOST_ABOVE := PySem.W.mg_of X G coMOST_ABOVE
  have gMOST_NUMBER := PySem.W.mg_of X G coMOST_NUMBER
  have emBadRangeBadRange : PySem.W.exmOne K (.ref CBadRange) (.ref CBadRange) = some true := exm_pair exBadRange icBadRange tyBadRange suBadRangeBadRange
  refine ⟨PySem.W.fnOf "law" "law" (defArgs sLaw) (defBody sLaw) (defScope sLaw) .none kV8 dc8 pm8 an8 cd8 ct8, fun s v => .of_eq rfl, fun base _ _ => ?_⟩
  have TN : NumT K mg CNumbers fNumbersinit := ⟨gCNumbers, clNumbers, mkNumbers, naNumberslow, naNumbershigh, naNumbersheld⟩
  have TSl : ClsT K mg "Slip" CSlip fSlipinit slipFs := ⟨gCSlip, clSlip, mkSlip, (fun f hf => by simp only [slipFs, List.mem_cons, List.not_mem_nil, or_false] at hf; rcases hf with rfl | rfl | rfl | rfl | rfl | rfl | rfl <;> assumption)⟩
  have TH : ClsT K mg "House" CHouse fHouseinit homeFs := ⟨gCHouse, clHouse, mkHouse, (fun f hf => by simp only [homeFs, List.mem_cons, List.not_mem_nil, or_false] at hf; rcases hf with rfl | rfl | rfl | rfl | rfl | rfl | rfl | rfl <;> assumption)⟩
  have TW : ClsT K mg "Web" CWeb fWebinit webFs := ⟨gCWeb, clWeb, mkWeb, (fun f hf => by simp only [webFs, List.mem_cons, List.not_mem_nil, or_false] at hf; rcases hf with rfl | rfl | rfl | rfl | rfl <;> assumption)⟩
  have GS : ∀ j, FnOk l.prog w K mg base CX0 (j + 1) fS _ ["self", "word", "why"] (spSlip K) := fun j => ok_slipI (k := j) FS TS
  have XM : ExcC l.prog w K mg base 6 "TooMany" CTooMany fTooMany _ ["self", "bound"] (spIn1 K "bound" "toomany" askInt gotSame) := ⟨TTooMany, ok_toomanyI (k := 4) FTooMany TS (GS 4) bS, bTooMany⟩
  have XN : ExcC l.prog w K mg base 4 "NoNumber" CNoNumber fNoNumber _ ["self"] (spIn0 K "nonumber") := ⟨TNoNumber, ok_nonumberI (k := 2) FNoNumber TS (GS 2) bS, bNoNumber⟩
  have XB : ExcC l.prog w K mg base 2 "BadRange" CBadRange fBadRange _ ["self"] (spIn0 K "badrange") := ⟨TBadRange, ok_badrangeI (k := 0) FBadRange TS (GS 0) bS, bBadRange⟩
  have GNI := ok_numI (P := l.prog) (w := w) (base := base) (k := 2) FNumbersinit TN ⟨ok_isrange (k := 2) Fis_range gMOST_ABOVE gMOST_NUMBER, gis_range, k6, bis_range⟩
  have GNB := ok_numB (P := l.prog) (w := w) (base := base) (C := CNumbers) (fI := fNumbersinit) (k := 1) FNumbersinit ⟨ok_isrange (k := 2) Fis_range gMOST_ABOVE gMOST_NUMBER, gis_range, k6, bis_range⟩ XB
  have GT := ok_numTake (P := l.prog) (w := w) (base := base) (k := 2) FNumberstake TN T.range XN
  have GMS := ok_makeSlip (P := l.prog) (w := w) (base := base) (k := 5) Fmake_slip TW TH TN TSl MNumberstake GT bNumberstake (ok_slpI (k := 4) FSlipinit TSl) bSlipinit
  have GH := ok_houseI (P := l.prog) (w := w) (base := base) (k := 4) FHouseinit TH TN GNI bNumbersinit
  have GHB := ok_houseB (P := l.prog) (w := w) (base := base) (k := 4) FHouseinit TH TN GNB bNumbersinit
  have GWI := ok_webI (P := l.prog) (w := w) (base := base) (c := ⟨CWeb, CHouse, CNumbers, CSlip⟩) (k := 4) FWebinit T TW TH gMOST_HOUSES ⟨dWH, dWN, dWS⟩ XM flTooManybound GH bHouseinit ⟨GMS, gmake_slip, k7, bmake_slip⟩
  have GWB := ok_webB (P := l.prog) (w := w) (base := base) (c := ⟨CWeb, CHouse, CNumbers, CSlip⟩) (k := 4) FWebinit T TW TH gMOST_HOUSES (fn_or (fn_up GH) GHB) bHouseinit
  exact ok_law Flaw T gMOST_NUMBER ⟨ok_box (k := 11) F_law_box T.list, g_law_box, k0, b_law_box⟩ ⟨ok_take (k := 11) F_law_take T.len, g_law_take, k1, b_law_take⟩ ⟨ok_wild (k := 10) F_law_wild ⟨ok_take (k := 10) F_law_take T.len, g_law_take, k1, b_law_take⟩, g_law_wild, k3, b_law_wild⟩ ⟨ok_bad (k := 11) F_law_bad, g_law_bad, k4, b_law_bad⟩ ⟨ok_same F_law_same ⟨T.isinstance, T.list, T.tuple, T.bool, T.int, T.str, T.len, T.all, T.zip⟩ g_law_same b_law_same 12, g_law_same, k2, b_law_same⟩ ⟨ok_made (k := 10) (c := ⟨CWeb, CHouse, CNumbers, CSlip⟩) F_law_made TN TW ((fn_or (fn_up GNI) GNB).mono (by decide)) bNumbersinit ((fn_or GWI GWB).mono (by decide)) bWebinit TBadRange emBadRangeBadRange, g_law_made, k5, b_law_made⟩
theorem walk {l : PySem.W.OpenLaw} {q : Program} {loose : List Str} {XP : (Str → Option Value) → Heap → Prop} {YP : World → Heap → Prop} {d : DefRec} {K : Params → PySem.W.Frag} (hn : l.most = some 63) (hdf : d.params.defaults = [])
    (hY : ∀ (w : World) (h : Heap), YP w h → (K w.params).In h)
    (F : ∀ (w : World) (mg : Str → Option Value) (fa : Addr) (h : Heap), (K w.params).In h → h.Ns mainGlobals mg → mg d.name = some (.ref fa) →
      ∃ fd : FuncData, (∀ (s : Shared) (u : Value), BindsTo s fd ⟨[u], []⟩ [("_law_script", u)]) ∧ ∀ base : Heap, (K w.params).In base → base.Ns mainGlobals mg → FnOk l.prog w (K w.params) mg base CX0 13 fa fd ["_law_script"] (spLaw (K w.params))) :
    PySem.W.WalkO q loose XP YP l.row.toRowW d [] (fun f vs => PySem.call f vs) :=
  L2.walk_of (n := 63) (k := 13) (x := "_law_script") (CX := fun _ => CX0) (sp := fun w => spLaw (K w.params)) hn (by decide) hdf ⟨rfl, by decide, by decide⟩ hY F (fun _ _ a ns hl _ hS => ⟨a, ns, rfl, hS, hl, fun _ => rfl⟩) fun _ _ _ _ _ z => z
end K
open PySem PySem.W PyProof.Rows
set_option maxRecDepth 100000 in
set_option maxHeartbeats 0 in
theorem PySem.Challenge.cw_swapslip_k09_ranges_refused_holds : PySem.Challenge.rw_swapslip_k09_ranges_refused.Holds := by
  w_on; o_law; k_head; (case hw => w_witness2)
  k_fill
  refine K.walk (l := PySem.Challenge.rw_swapslip_k09_ranges_refused) rfl rfl (fun w h Y => PySem.W.kIn_of Y) ?F
  case F =>
    intro w mg fa h KX G hmg
    refine' K.all_mk KX G hmg ?a0 ?l0 ?c0 ?k0 ?a1 ?l1 ?c1 ?k1 ?a2 ?l2 ?c2 ?k2 ?a3 ?l3 ?c3 ?k3 ?a4 ?l4 ?c4 ?k4 ?a5 ?l5 ?c5 ?k5 ?a6 ?l6 ?c6 ?k6 ?a7 ?l7 ?c7 ?k7 ?a8 ?l8 ?c8 ?k8 ?aS ?rd ?rga ?atS ?lS ?lT ?cS ?kS ?vV ?zV ?aTooMany ?xTooMany ?rTooMany ?saTooMany ?exTooMany ?tyTooMany ?kcTooMany ?gaTooMany ?ggTooMany ?hdTooMany ?iTooMany ?tiTooMany ?lTooMany ?cTooMany ?kfTooMany ?wTooMany ?flTooManybound ?icTooMany ?aNoNumber ?xNoNumber ?rNoNumber ?saNoNumber ?exNoNumber ?tyNoNumber ?kcNoNumber ?gaNoNumber ?ggNoNumber ?hdNoNumber ?iNoNumber ?tiNoNumber ?lNoNumber ?cNoNumber ?kfNoNumber ?wNoNumber ?icNoNumber ?aBadRange ?xBadRange ?rBadRange ?saBadRange ?exBadRange ?tyBadRange ?kcBadRange ?gaBadRange ?ggBadRange ?hdBadRange ?iBadRange ?tiBadRange ?lBadRange ?cBadRange ?kfBadRange ?wBadRange ?icBadRange ?aCNumbers ?pgNumbers ?hdcNumbers ?poNumbers ?sacNumbers ?mkNumbers ?kpcNumbers ?atNumbersinit ?fnNumbersinit ?lNumbersinit ?cNumbersinit ?kfNumbersinit ?atNumberstake ?fnNumberstake ?lNumberstake ?cNumberstake ?kfNumberstake ?naNumberslow ?naNumbershigh ?naNumbersheld ?aCSlip ?pgSlip ?hdcSlip ?poSlip ?sacSlip ?mkSlip ?kpcSlip ?atSlipinit ?fnSlipinit ?lSlipinit ?cSlipinit ?kfSlipinit ?naSlipnumber ?naSlipwhat ?naSlipout ?naSlippath ?naSlipage ?naSlipmood ?naSliptold ?aCHouse ?pgHouse ?hdcHouse ?poHouse ?sacHouse ?mkHouse ?kpcHouse ?atHouseinit ?fnHouseinit ?lHouseinit ?cHouseinit ?kfHouseinit ?naHousename ?naHousenumbers ?naHousesight ?naHousewants ?naHousestands ?naHousenews ?naHousequeue ?naHousefreed ?aCWeb ?pgWeb ?hdcWeb ?poWeb ?sacWeb ?mkWeb ?kpcWeb ?atWebinit ?fnWebinit ?lWebinit ?cWebinit ?kfWebinit ?naWebhomes ?naWebbonds ?naWebmail ?naWebbores ?naWebever ?coMOST_HOUSES ?coMOST_ABOVE ?coMOST_NUMBER ?suBadRangeBadRange ?dWH ?dWN ?dWS ?zlen ?zrange ?zlist ?ztuple ?zisinstance ?zbool ?zint ?zstr ?zall ?zzip ?zsum ?zmin ?zsorted ?zabs ?zenumerate
    (case a0 => k_is)
    (case l0 => k_is)
    (case c0 => k_is)
    (case k0 => k_is)
    (case a1 => k_is)
    (case l1 => k_is)
    (case c1 => k_is)
    (case k1 => k_is)
    (case a2 => k_is)
    (case l2 => k_is)
    (case c2 => k_is)
    (case k2 => k_is)
    (case a3 => k_is)
    (case l3 => k_is)
    (case c3 => k_is)
    (case k3 => k_is)
    (case a4 => k_is)
    (case l4 => k_is)
    (case c4 => k_is)
    (case k4 => k_is)
    (case a5 => k_is)
    (case l5 => k_is)
    (case c5 => k_is)
    (case k5 => k_is)
    (case a6 => k_is)
    (case l6 => k_is)
    (case c6 => k_is)
    (case k6 => k_is)
    (case a7 => k_is)
    (case l7 => k_is)
    (case c7 => k_is)
    (case k7 => k_is)
    (case a8 => k_is)
    (case l8 => k_is)
    (case c8 => k_is)
    (case k8 => k_is)
    (case aS => k_is)
    (case rd => k_is)
    (case rga => k_is)
    (case atS => k_is)
    (case lS => k_is)
    (case lT => k_is)
    (case cS => k_is)
    (case kS => k_is)
    (case vV => k_is)
    (case zV => k_is)
    (case aTooMany => k_is)
    (case xTooMany => k_is)
    (case rTooMany => first | rfl | decide +kernel)
    (case saTooMany => k_is)
    (case exTooMany => k_is)
    (case tyTooMany => k_is)
    (case kcTooMany => k_is)
    (case gaTooMany => k_is)
    (case ggTooMany => k_is)
    (case hdTooMany => k_is)
    (case iTooMany => k_is)
    (case tiTooMany => k_is)
    (case lTooMany => k_is)
    (case cTooMany => k_is)
    (case kfTooMany => k_is)
    (case wTooMany => k_is)
    (case flTooManybound => k_is)
    (case icTooMany => k_is)
    (case aNoNumber => k_is)
    (case xNoNumber => k_is)
    (case rNoNumber => first | rfl | decide +kernel)
    (case saNoNumber => k_is)
    (case exNoNumber => k_is)
    (case tyNoNumber => k_is)
    (case kcNoNumber => k_is)
    (case gaNoNumber => k_is)
    (case ggNoNumber => k_is)
    (case hdNoNumber => k_is)
    (case iNoNumber => k_is)
    (case tiNoNumber => k_is)
    (case lNoNumber => k_is)
    (case cNoNumber => k_is)
    (case kfNoNumber => k_is)
    (case wNoNumber => k_is)
    (case icNoNumber => k_is)
    (case aBadRange => k_is)
    (case xBadRange => k_is)
    (case rBadRange => first | rfl | decide +kernel)
    (case saBadRange => k_is)
    (case exBadRange => k_is)
    (case tyBadRange => k_is)
    (case kcBadRange => k_is)
    (case gaBadRange => k_is)
    (case ggBadRange => k_is)
    (case hdBadRange => k_is)
    (case iBadRange => k_is)
    (case tiBadRange => k_is)
    (case lBadRange => k_is)
    (case cBadRange => k_is)
    (case kfBadRange => k_is)
    (case wBadRange => k_is)
    (case icBadRange => k_is)
    (case aCNumbers => k_is)
    (case pgNumbers => k_is)
    (case hdcNumbers => k_is)
    (case poNumbers => k_is)
    (case sacNumbers => k_is)
    (case mkNumbers => k_is)
    (case kpcNumbers => k_is)
    (case atNumbersinit => k_is)
    (case fnNumbersinit => k_is)
    (case lNumbersinit => k_is)
    (case cNumbersinit => k_is)
    (case kfNumbersinit => k_is)
    (case atNumberstake => k_is)
    (case fnNumberstake => k_is)
    (case lNumberstake => k_is)
    (case cNumberstake => k_is)
    (case kfNumberstake => k_is)
    (case naNumberslow => k_is)
    (case naNumbershigh => k_is)
    (case naNumbersheld => k_is)
    (case aCSlip => k_is)
    (case pgSlip => k_is)
    (case hdcSlip => k_is)
    (case poSlip => k_is)
    (case sacSlip => k_is)
    (case mkSlip => k_is)
    (case kpcSlip => k_is)
    (case atSlipinit => k_is)
    (case fnSlipinit => k_is)
    (case lSlipinit => k_is)
    (case cSlipinit => k_is)
    (case kfSlipinit => k_is)
    (case naSlipnumber => k_is)
    (case naSlipwhat => k_is)
    (case naSlipout => k_is)
    (case naSlippath => k_is)
    (case naSlipage => k_is)
    (case naSlipmood => k_is)
    (case naSliptold => k_is)
    (case aCHouse => k_is)
    (case pgHouse => k_is)
    (case hdcHouse => k_is)
    (case poHouse => k_is)
    (case sacHouse => k_is)
    (case mkHouse => k_is)
    (case kpcHouse => k_is)
    (case atHouseinit => k_is)
    (case fnHouseinit => k_is)
    (case lHouseinit => k_is)
    (case cHouseinit => k_is)
    (case kfHouseinit => k_is)
    (case naHousename => k_is)
    (case naHousenumbers => k_is)
    (case naHousesight => k_is)
    (case naHousewants => k_is)
    (case naHousestands => k_is)
    (case naHousenews => k_is)
    (case naHousequeue => k_is)
    (case naHousefreed => k_is)
    (case aCWeb => k_is)
    (case pgWeb => k_is)
    (case hdcWeb => k_is)
    (case poWeb => k_is)
    (case sacWeb => k_is)
    (case mkWeb => k_is)
    (case kpcWeb => k_is)
    (case atWebinit => k_is)
    (case fnWebinit => k_is)
    (case lWebinit => k_is)
    (case cWebinit => k_is)
    (case kfWebinit => k_is)
    (case naWebhomes => k_is)
    (case naWebbonds => k_is)
    (case naWebmail => k_is)
    (case naWebbores => k_is)
    (case naWebever => k_is)
    (case coMOST_HOUSES => k_is)
    (case coMOST_ABOVE => k_is)
    (case coMOST_NUMBER => k_is)
    (case suBadRangeBadRange => first | rfl | k_is)
    (case dWH => first | decide | k_is)
    (case dWN => first | decide | k_is)
    (case dWS => first | decide | k_is)
    (case zlen => k_is)
    (case zrange => k_is)
    (case zlist => k_is)
    (case ztuple => k_is)
    (case zisinstance => k_is)
    (case zbool => k_is)
    (case zint => k_is)
    (case zstr => k_is)
    (case zall => k_is)
    (case zzip => k_is)
    (case zsum => k_is)
    (case zmin => k_is)
    (case zsorted => k_is)
    (case zabs => k_is)
    (case zenumerate => k_is)
